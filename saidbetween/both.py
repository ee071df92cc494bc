"""Speeches of plain grids by covers of both integers."""

from saidbetween.covers import is_cover
from saidbetween.errors import BadParameter
from saidbetween.hands import columns_of_grid, GRID_HANDS, need_grid, rows_of_grid
from saidbetween.kinds import is_integer

MOST_NAMED = 60
# The places of rows and of columns in a RECTANGLE, and of their hands.
ROWS = 0
COLUMNS = 1


def need_named(grid, number, cover):
    """A cover of an integer, of few enough things."""
    if not is_cover(grid, number, cover) or len(cover) > MOST_NAMED:
        raise BadParameter(cover)
    return cover


def by_both_covers(grid, zeros, ones):
    """The speech by which the hands name things of `ones` until no thing of `zeros` is alive."""
    need_grid(grid)
    if not all([number in (0, 1) for line in grid for number in line]):
        raise BadParameter(grid)
    need_named(grid, 0, zeros)
    need_named(grid, 1, ones)
    return anew(ones, (rows_of_grid(grid), columns_of_grid(grid)), zeros)


def anew(ones, there, alive):
    """The speech of the rows and columns that can still be there, the one hand beginning."""
    return by_name(ones, ROWS, there, alive) if alive else 1


def by_name(ones, side, there, alive):
    """The speech in which the hand of this side names the first thing that it may."""
    names = {at: first_name(ones, side, at, alive) for at in there[side]}
    # 2 ** M is the least power of two above N.
    return bit_by_bit(ones, side, there, alive, names, len(ones).bit_length())


def first_name(ones, side, at, alive):
    """The number of the first thing that a row or column may name; how many there are if none."""
    for name, thing in enumerate(ones):
        if at in thing[side] and 2 * len(meeting(alive, side, thing)) <= len(alive):
            return name
    return len(ones)


def meeting(alive, side, thing):
    """Those alive that have a row, or a column, in common with a thing."""
    return [one for one in alive if len(set(one[side]) & set(thing[side])) > 0]


def bit_by_bit(ones, side, there, alive, names, bits):
    """The speech in which the last so many bits of a name are still to be said."""
    if bits == 0:
        return behind_name(ones, side, there, alive, names[there[side][0]])
    within = tuple([at for at in there[side] if (names[at] >> (bits - 1)) & 1])
    without = tuple([at for at in there[side] if at not in within])
    parts = [
        bit_by_bit(ones, side, with_side(there, side, lot), alive, names, bits - 1)
        for lot in (within, without) if lot
    ]
    if len(parts) == 1:
        return parts[0]
    return (GRID_HANDS[side], within, parts[0], parts[1])


def with_side(there, side, lot):
    """What can still be there, with other rows or with other columns."""
    return (lot, there[COLUMNS]) if side == ROWS else (there[ROWS], lot)


def behind_name(ones, side, there, alive, name):
    """The speech behind a name, which all of this side that can be there would say."""
    if name < len(ones):
        return anew(ones, there, meeting(alive, side, ones[name]))
    return by_name(ones, COLUMNS, there, alive) if side == ROWS else 0


def both_bound(zeros, ones):
    """The most bits by covers of so many things."""
    for count in (zeros, ones):
        if not is_integer(count, 0, MOST_NAMED):
            raise BadParameter(count)
    if zeros == 0:
        return 0
    # 2 ** K is the greatest power of two at most `zeros`.
    return (zeros.bit_length() - 1 + 2) * 2 * ones.bit_length()
