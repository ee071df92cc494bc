"""Partings of the cells that have an integer: least partings, papers."""

from saidbetween.covers import columns_with, is_cover
from saidbetween.engine import all_lots
from saidbetween.hands import need_grid, rows_of_grid
from saidbetween.kinds import is_tuple
from saidbetween.papers import Board, is_paper, least_taken, need_few_lines, need_paper_count
from saidbetween.papers import shows_fewest
from saidbetween.saying import cells_with, need_number

MOST_PARTED = 4


def all_rectangles_with(grid, number):
    """All RECTANGLES of an integer, ascending."""
    need_grid(grid)
    need_number(number)
    return sorted([
        (rows, columns)
        for rows in all_lots(rows_of_grid(grid))
        for columns in all_lots(columns_with(grid, number, rows))
    ])


def is_parting(grid, number, value):
    """Whether a value is a parting of the cells that have the integer."""
    if not is_cover(grid, number, value):
        return False
    # No cell is left out: none lies in two exactly if there are no more in all.
    size = sum([len(rows) * len(columns) for rows, columns in value])
    return size == len(cells_with(grid, number))


def parting_board(grid, number):
    """The board of partings: all RECTANGLES may be taken all of whose cells are left."""
    return Board(grid, number, all_rectangles_with(grid, number), True)


def least_parting(grid, number):
    """The fewest things of a parting, such a parting, and a paper that fewer are not enough."""
    board = parting_board(grid, number)
    need_few_lines(board, MOST_PARTED)
    return least_taken(board)


def is_parting_paper(grid, number, count, value):
    """Whether a value is a PAPER that no parting has fewer than so many things."""
    board = parting_board(grid, number)
    need_paper_count(count)
    return is_paper(board, board.whole, count - 1, value)


def is_least_parting(grid, number, value):
    """Whether a value is a triple as `least_parting` tells it."""
    board = parting_board(grid, number)
    if not is_tuple(value, 3) or not is_parting(grid, number, value[1]):
        return False
    return shows_fewest(board, value)
