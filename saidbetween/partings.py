"""Partings of the cells that have an integer: least partings, papers."""

from saidbetween.covers import columns_with
from saidbetween.engine import all_lots
from saidbetween.errors import TooGreat
from saidbetween.hands import need_grid, rows_of_grid
from saidbetween.kinds import is_tuple
from saidbetween.papers import Board, is_paper, is_rectangle, least_taken, mask_of_rectangle
from saidbetween.papers import need_paper_count, shows_fewest, whole_mask
from saidbetween.saying import need_number

MOST_PARTED = 4


def all_rectangles_with(grid, number):
    """All RECTANGLES of an integer, ascending."""
    return sorted([
        (rows, columns)
        for rows in all_lots(rows_of_grid(grid))
        for columns in all_lots(columns_with(grid, number, rows))
    ])


def is_parting(grid, number, value):
    """Whether a value is a parting of the cells that have the integer."""
    need_grid(grid)
    need_number(number)
    if type(value) is not tuple:
        return False
    seen = 0
    for thing in value:
        if not is_rectangle(grid, number, thing):
            return False
        mask = mask_of_rectangle(len(grid[0]), thing)
        if seen & mask != 0:
            return False
        seen |= mask
    return seen == whole_mask(grid, number)


def parting_board(grid, number):
    """The board of a grid and a number that are checked, with all RECTANGLES."""
    return Board(grid, number, all_rectangles_with(grid, number), True)


def least_parting(grid, number):
    """The fewest things of a parting, such a parting, and a paper that fewer are not enough."""
    need_grid(grid)
    need_number(number)
    if max(len(grid), len(grid[0])) > MOST_PARTED:
        raise TooGreat(MOST_PARTED)
    return least_taken(parting_board(grid, number))


def is_parting_paper(grid, number, count, value):
    """Whether a value is a PAPER that no parting has fewer than so many things."""
    need_grid(grid)
    need_number(number)
    need_paper_count(count)
    board = parting_board(grid, number)
    return is_paper(board, board.whole, count - 1, value)


def is_least_parting(grid, number, value):
    """Whether a value is a triple as `least_parting` tells it."""
    need_grid(grid)
    need_number(number)
    if not is_tuple(value, 3) or not is_parting(grid, number, value[1]):
        return False
    return shows_fewest(parting_board(grid, number), value)
