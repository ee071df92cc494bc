"""The fewest bits by which the integers of a grid come to be known, and bounds."""

from saidbetween.books import counts_of, is_book_for, least_told, need_book_bits, shows_least
from saidbetween.engine import Field, lot_of
from saidbetween.errors import BadParameter
from saidbetween.hands import columns_of_grid, GRID_HANDS, is_speech, MOST_NUMBER, need_grid
from saidbetween.hands import rows_of_grid
from saidbetween.kinds import is_integer, is_tuple
from saidbetween.ranks import need_prime, rank_of
from saidbetween.walks import depth

MOST_GRID_PRIME = 997


def grid_field(grid):
    """The rectangles of a checked grid; ends are the integers that all cells of one have."""
    rows = rows_of_grid(grid)
    columns = columns_of_grid(grid)
    numbers = [
        [number_of(grid, lot_of(rows, some), lot_of(columns, others))
         for others in range(1 << len(columns))]
        for some in range(1 << len(rows))
    ]
    return Field(GRID_HANDS, rows, columns, numbers)


def number_of(grid, rows, columns):
    """The integer that all cells of a rectangle have, None if there is none."""
    found = sorted({grid[row][column] for row in rows for column in columns})
    return found[0] if len(found) == 1 else None


def least_said(grid):
    """The least bits, a speech with so many, and a book that fewer will not do."""
    return least_told(grid_field(need_grid(grid)))


def is_least_said(grid, value):
    """Whether a value is a triple as `least_said` tells it."""
    need_grid(grid)
    if not is_tuple(value, 3) or not is_speech(grid, value[1]):
        return False
    return shows_least(grid_field(grid), depth(value[1]), value)


def is_grid_book(grid, bits, value):
    """Whether a value is a book that shows that no speech of so many bits tells the grid."""
    need_grid(grid)
    need_book_bits(bits)
    return is_book_for(grid_field(grid), bits, value)


def grid_counts(grid):
    """How many rectangles can be told in at most 0, 1, .. bits, up to the least bits."""
    return counts_of(grid_field(need_grid(grid)))


def need_number(number):
    """An integer that a grid may have."""
    if not is_integer(number, 0, MOST_NUMBER):
        raise BadParameter(number)
    return number


def cells_with(grid, number):
    """The cells of a checked grid that have the integer, ascending."""
    return [
        (row, column)
        for row, line in enumerate(grid)
        for column, one in enumerate(line)
        if one == number
    ]


def are_apart(grid, number, cell, other):
    """Whether no rectangle of this integer alone has both cells."""
    return grid[cell[0]][other[1]] != number or grid[other[0]][cell[1]] != number


def is_fool(grid, number, value):
    """Whether a value is a fool of the integer."""
    need_grid(grid)
    need_number(number)
    if type(value) is not tuple or not all([is_cell_with(grid, number, cell) for cell in value]):
        return False
    if any([value[at] <= value[at - 1] for at in range(1, len(value))]):
        return False
    return all([
        are_apart(grid, number, value[at], other)
        for at in range(len(value))
        for other in value[:at]
    ])


def is_cell_with(grid, number, thing):
    """Whether a thing is a cell of the grid that has the integer."""
    if not is_tuple(thing, 2) or not is_integer(thing[0], 0, len(grid) - 1):
        return False
    return is_integer(thing[1], 0, len(grid[0]) - 1) and grid[thing[0]][thing[1]] == number


def greatest_fool(grid, number):
    """The fool of the integer with the most cells, of these the least."""
    need_grid(grid)
    need_number(number)
    return most_apart(grid, number, (), cells_with(grid, number), ())


def most_apart(grid, number, fool, cells, best):
    """The first with the most cells of `best` and all that go on from `fool` by these cells.

    Each of the cells is apart from all of the fool.
    """
    if len(fool) > len(best):
        best = fool
    for at, cell in enumerate(cells):
        # No two cells of a fool are in one row: so many can be put in at most.
        if len(fool) + len({row for row, _ in cells[at:]}) <= len(best):
            break
        apart = [other for other in cells[at + 1:] if are_apart(grid, number, cell, other)]
        best = most_apart(grid, number, fool + (cell,), apart, best)
    return best


def grid_rank(grid, number, prime):
    """The rank modulo a prime of the rows with 1 where the grid has the integer, else 0."""
    need_grid(grid)
    need_number(number)
    need_prime(prime, MOST_GRID_PRIME)
    return rank_of(prime, [[1 if one == number else 0 for one in line] for line in grid])


def said_bound(grid, prime):
    """The least ends and the least bits that fools and ranks tell."""
    need_grid(grid)
    need_prime(prime, MOST_GRID_PRIME)
    ends = sum([
        max(len(greatest_fool(grid, number)), grid_rank(grid, number, prime))
        for number in sorted({one for line in grid for one in line})
    ])
    # The least K with 2 ** K at least ENDS.
    return (ends, (ends - 1).bit_length())
