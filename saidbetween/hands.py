"""Grids and speeches: checked, followed, counted."""

from saidbetween.errors import BadGrid, BadParameter, BadTalk, TooGreat
from saidbetween.kinds import is_integer, is_set_of_numbers, is_tuple, is_word
from saidbetween.walks import BRANCH, depth, END, ends_with_rows, first_fault, LABEL
from saidbetween.walks import way_of_both, WRONG

MOST_LINES = 6
MOST_NUMBER = 9
MOST_SPEECHES = 400
GRID_HANDS = ("row", "column")


def need_grid(grid):
    """A grid: what was handed in, if it is one."""
    if not has_few_things(grid):
        raise BadGrid(())
    for place, line in enumerate(grid):
        if not has_few_things(line) or len(line) != len(grid[0]):
            raise BadGrid((place,))
        for at, number in enumerate(line):
            if not is_integer(number, 0, MOST_NUMBER):
                raise BadGrid((place, at))
    return grid


def has_few_things(thing):
    """Whether a thing is a tuple of 1 to 6 things."""
    return type(thing) is tuple and 1 <= len(thing) <= MOST_LINES


def need_speech(grid, speech):
    """A speech of the grid: what was handed in, if it is one."""
    path = first_fault(need_grid(grid), speech, MOST_SPEECHES, kind_of_speech)
    if path is not None:
        raise BadTalk(path)
    return speech


def kind_of_speech(grid, thing):
    """What a thing is on the walk through a speech."""
    if is_integer(thing, 0, MOST_NUMBER):
        return END
    if not is_tuple(thing, 4) or not is_word(thing[0], GRID_HANDS):
        return WRONG
    limit = len(grid) if thing[0] == "row" else len(grid[0])
    return BRANCH if is_set_of_numbers(limit, thing[1]) else LABEL


def rows_of_grid(grid):
    """The numbers of all rows."""
    return tuple(range(len(grid)))


def columns_of_grid(grid):
    """The numbers of all columns."""
    return tuple(range(len(grid[0])))


def heard(grid, speech, row, column):
    """What is said for a row and a column, and the integer at the end."""
    need_speech(grid, speech)
    if not is_integer(row, 0, len(grid) - 1):
        raise BadParameter(row)
    if not is_integer(column, 0, len(grid[0]) - 1):
        raise BadParameter(column)
    return way_of_both(speech, row, column)


def cells_at(grid, speech):
    """For each end the rows and the columns that come there, and its integer."""
    need_speech(grid, speech)
    return tuple(ends_with_rows(speech, rows_of_grid(grid), columns_of_grid(grid)))


def speech_bits(grid, speech):
    """The bits of a speech."""
    return depth(need_speech(grid, speech))


def is_speech(grid, value):
    """Whether a value is a speech by which all come to the integer of their cell."""
    need_grid(grid)
    try:
        found = cells_at(grid, value)
    except (BadTalk, TooGreat):
        return False
    return all([
        grid[row][column] == number
        for rows, columns, number in found
        for row in rows
        for column in columns
    ])


def turned_grid(grid):
    """The grid with rows and columns exchanged."""
    need_grid(grid)
    return exchanged(grid)


def exchanged(grid):
    """The columns of a checked grid as rows."""
    return tuple([tuple([line[at] for line in grid]) for at in range(len(grid[0]))])


def bare_grid(grid):
    """The grid in which of alike rows, then of alike columns, only the first ones are left."""
    need_grid(grid)
    return exchanged(first_ones(exchanged(first_ones(grid))))


def first_ones(lines):
    """Of alike lines only the first ones."""
    return tuple([line for at, line in enumerate(lines) if line not in lines[:at]])
