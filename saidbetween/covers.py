"""Covers of the cells that have an integer: greatest rectangles, least covers, papers."""

from saidbetween.engine import all_lots
from saidbetween.hands import columns_of_grid, need_grid, rows_of_grid
from saidbetween.kinds import is_tuple
from saidbetween.papers import Board, is_paper, is_rectangle, least_taken, mask_of_rectangle
from saidbetween.papers import need_few_lines, need_paper_count, shows_fewest, whole_mask
from saidbetween.saying import need_number

MOST_COVERED = 5


def greatest_rectangles(grid, number):
    """The greatest RECTANGLES of an integer, ascending."""
    need_grid(grid)
    need_number(number)
    found = {}
    for rows in all_lots(rows_of_grid(grid)):
        columns = columns_with(grid, number, rows)
        if columns:
            found[(rows_with_all(grid, number, columns), columns)] = True
    return tuple(sorted(found))


def columns_with(grid, number, rows):
    """The columns that have the integer in all of these rows."""
    return tuple([
        column for column in columns_of_grid(grid)
        if all([grid[row][column] == number for row in rows])
    ])


def rows_with_all(grid, number, columns):
    """The rows that have the integer in all of these columns."""
    return tuple([
        row for row in rows_of_grid(grid)
        if all([grid[row][column] == number for column in columns])
    ])


def is_cover(grid, number, value):
    """Whether a value is a cover of the cells that have the integer."""
    need_grid(grid)
    need_number(number)
    if type(value) is not tuple:
        return False
    seen = 0
    for thing in value:
        if not is_rectangle(grid, number, thing):
            return False
        seen |= mask_of_rectangle(len(grid[0]), thing)
    return seen == whole_mask(grid, number)


def cover_board(grid, number):
    """The board of covers: the greatest RECTANGLES may be taken, whatever is left."""
    return Board(grid, number, greatest_rectangles(grid, number), False)


def least_cover(grid, number):
    """The fewest things of a cover, such a cover, and a paper that fewer are not enough."""
    board = cover_board(grid, number)
    need_few_lines(board, MOST_COVERED)
    return least_taken(board)


def is_cover_paper(grid, number, count, value):
    """Whether a value is a PAPER that no cover has fewer than so many things."""
    board = cover_board(grid, number)
    need_paper_count(count)
    return is_paper(board, board.whole, count - 1, value)


def is_least_cover(grid, number, value):
    """Whether a value is a triple as `least_cover` tells it."""
    board = cover_board(grid, number)
    if not is_tuple(value, 3) or not is_cover(grid, number, value[1]):
        return False
    return shows_fewest(board, value)
