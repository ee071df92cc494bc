"""Cells of a grid by masks, and papers that so many rectangles are not enough.

The cell (ROW, COLUMN) is the bit ROW * width + COLUMN of a mask. A paper is told of the cells
that are left: those on which no rectangle lies yet.
"""

from saidbetween.errors import BadParameter, TooGreat
from saidbetween.kinds import is_integer, is_set_of_numbers, is_tuple, is_word
from saidbetween.saying import cells_with

MOST_COUNT = 36


class Board:
    """The cells with an integer, and the rectangles that may be taken, ascending, with masks.

    If it is `exact`, only rectangles may be taken all of whose cells are left.
    """

    def __init__(self, grid, number, rectangles, exact):
        self.height = len(grid)
        self.width = len(grid[0])
        self.whole = whole_mask(grid, number)
        self.rectangles = [(one, mask_of_rectangle(self.width, one)) for one in rectangles]
        self.exact = exact


def need_few_lines(board, most):
    """A board of at most so many rows and columns."""
    if max(board.height, board.width) > most:
        raise TooGreat(most)
    return board


def bit_of(width, cell):
    """The mask of one cell."""
    return 1 << (cell[0] * width + cell[1])


def whole_mask(grid, number):
    """The mask of all cells that have the integer."""
    return sum([bit_of(len(grid[0]), cell) for cell in cells_with(grid, number)])


def mask_of_rectangle(width, rectangle):
    """The mask of the cells of a rectangle."""
    rows, columns = rectangle
    return sum([bit_of(width, (row, column)) for row in rows for column in columns])


def is_rectangle(grid, number, thing):
    """Whether a thing is a RECTANGLE of the integer."""
    if not is_tuple(thing, 2):
        return False
    rows, columns = thing
    if not is_set_of_numbers(len(grid), rows) or not is_set_of_numbers(len(grid[0]), columns):
        return False
    if len(rows) == 0 or len(columns) == 0:
        return False
    return all([grid[row][column] == number for row in rows for column in columns])


def cells_of(board, mask):
    """The cells of a mask, ascending."""
    return [
        (row, column)
        for row in range(board.height)
        for column in range(board.width)
        if mask & bit_of(board.width, (row, column))
    ]


def choices(board, left, cell):
    """The rectangles with this cell that may be taken, ascending, with their masks."""
    bit = bit_of(board.width, cell)
    return [
        (rectangle, mask)
        for rectangle, mask in board.rectangles
        if mask & bit and (not board.exact or mask & left == mask)
    ]


def narrowest_cell(board, left):
    """Of the cells that are left the first one that lies in the fewest rectangles."""
    return min(cells_of(board, left), key=lambda cell: len(choices(board, left, cell)))


def are_cells_apart(board, left, cell, other):
    """Whether no rectangle that may be taken has both cells."""
    allowed = left if board.exact else board.whole
    corners = bit_of(board.width, (cell[0], other[1])) | bit_of(board.width, (other[0], cell[1]))
    return allowed & corners != corners


def some_apart(board, left, cells, count):
    """The first so many of the cells of which no two are in one rectangle, None if none are."""
    if count == 0:
        return ()
    for at, cell in enumerate(cells):
        apart = [other for other in cells[at + 1:] if are_cells_apart(board, left, cell, other)]
        found = some_apart(board, left, apart, count - 1)
        if found is not None:
            return (cell,) + found
    return None


def least_taken(board):
    """The fewest rectangles that take all cells, such ones, and a paper that fewer do not."""
    count = 0
    lost = {}
    taken = taken_by(board, lost, board.whole, count)
    while taken is None:
        count += 1
        taken = taken_by(board, lost, board.whole, count)
    paper = None if count == 0 else paper_for(board, board.whole, count - 1)
    return (count, tuple(sorted(taken)), paper)


def taken_by(board, lost, left, count):
    """At most so many rectangles that take all cells left, None if there are none.

    `lost` keeps the cells and counts for which there are known to be none.
    """
    if left == 0:
        return ()
    if count == 0 or (left, count) in lost:
        return None
    for rectangle, mask in choices(board, left, narrowest_cell(board, left)):
        rest = taken_by(board, lost, left & ~mask, count - 1)
        if rest is not None:
            return (rectangle,) + rest
    lost[(left, count)] = True
    return None


def paper_for(board, left, most):
    """A paper that so many rectangles, which are not enough, do not take all cells left."""
    fool = some_apart(board, left, cells_of(board, left), most + 1)
    if fool is not None:
        return ("fool", fool)
    cell = narrowest_cell(board, left)
    papers = [
        paper_for(board, left & ~mask, most - 1) for _, mask in choices(board, left, cell)
    ]
    return ("cell", cell, tuple(papers))


def is_paper(board, left, most, thing):
    """Whether a thing is a PAPER for so many rectangles and the cells left."""
    if is_tuple(thing, 2) and is_word(thing[0], ("fool",)):
        return is_fool_paper(board, left, most, thing[1])
    if most == 0 or not is_tuple(thing, 3) or not is_word(thing[0], ("cell",)):
        return False
    if not is_cell_left(board, left, thing[1]):
        return False
    found = choices(board, left, thing[1])
    if not is_tuple(thing[2], len(found)):
        return False
    for (_, mask), paper in zip(found, thing[2]):
        if not is_paper(board, left & ~mask, most - 1, paper):
            return False
    return True


def is_cell_left(board, left, thing):
    """Whether a thing is a cell that is left."""
    if not is_tuple(thing, 2) or not is_integer(thing[0], 0, board.height - 1):
        return False
    return is_integer(thing[1], 0, board.width - 1) and left & bit_of(board.width, thing) != 0


def is_fool_paper(board, left, most, cells):
    """Whether these are more than so many cells left, ascending, no two in one rectangle."""
    if type(cells) is not tuple or len(cells) <= most:
        return False
    for at, cell in enumerate(cells):
        if not is_cell_left(board, left, cell) or (at > 0 and cell <= cells[at - 1]):
            return False
    return all([
        are_cells_apart(board, left, cells[at], other)
        for at in range(len(cells))
        for other in cells[:at]
    ])


def need_paper_count(count):
    """A number of rectangles less one of which a paper can be."""
    if not is_integer(count, 1, MOST_COUNT):
        raise BadParameter(count)
    return count


def shows_fewest(board, value):
    """Whether a triple, whose rectangles are right, shows that fewer are not enough."""
    count, rectangles, paper = value
    if not is_integer(count, len(rectangles), len(rectangles)):
        return False
    if count == 0:
        return paper is None
    return is_paper(board, board.whole, count - 1, paper)
