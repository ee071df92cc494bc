"""Papers of one row of a table, sums, the tree of certificates, a tree as a formula."""

from itertools import combinations

from saidbetween.asks import BOTH_VALUES, FREE, halves_at, least_in_cubes, need_small_table
from saidbetween.asks import need_tree, values_in_cubes
from saidbetween.engine import lot_of, lots_within
from saidbetween.errors import BadParameter
from saidbetween.kinds import is_integer, is_set_of_numbers, is_tuple, need_row
from saidbetween.walks import is_branch


def certificate(many, values, row):
    """The least SET of fewest bits that fix the value of a row."""
    need_small_table(many, values)
    need_row(many, row)
    return certificate_in(values_in_cubes(many, values), many, row)


def certificate_in(kinds, many, row):
    """The certificate of a row, told which values each cube has."""
    found = [
        bits
        for count in range(many + 1)
        for bits in combinations(range(many), count)
        if kinds[cube_with(many, row, bits)] != BOTH_VALUES
    ]
    return found[0]


def cube_with(many, row, bits):
    """The cube of the rows that have these bits as a row has them."""
    return tuple([(row >> bit) & 1 if bit in bits else FREE for bit in range(many)])


def turning_bits(many, values, row):
    """The bits each of which, turned alone, turns the value."""
    need_small_table(many, values)
    need_row(many, row)
    return turning_in(many, values, row)


def turning_in(many, values, row):
    """The turning bits of a row of a checked table."""
    return tuple([bit for bit in range(many) if values[row ^ (1 << bit)] != values[row]])


def blocks(many, values, row):
    """The most SETs of bits without common bits that turn the value, and such ones."""
    need_small_table(many, values)
    need_row(many, row)
    found = blocks_in(many, values, row)
    places = tuple(range(many))
    return (len(found), tuple([lot_of(places, mask) for mask in found]))


def blocks_in(many, values, row):
    """The masks of the most blocks of a row of a checked table."""
    # For each mask of bits, behind all masks within it, the most blocks within it.
    most = [()]
    for mask in range(1, 1 << many):
        first = mask & -mask
        best = most[mask ^ first]
        for part in lots_within(mask ^ first):
            rest = most[mask ^ first ^ part]
            if values[row ^ first ^ part] != values[row] and len(rest) + 1 > len(best):
                best = (first | part,) + rest
        most.append(best)
    return most[-1]


def is_blocks(many, values, row, value):
    """Whether a value is a pair as `blocks` tells it."""
    need_small_table(many, values)
    need_row(many, row)
    most = len(blocks_in(many, values, row))
    if not is_tuple(value, 2) or not is_integer(value[0], most, most):
        return False
    return is_tuple(value[1], most) and are_blocks(many, values, row, value[1])


def are_blocks(many, values, row, things):
    """Whether things are SETs of bits without common bits that turn the value."""
    seen = 0
    for thing in things:
        if not is_set_of_numbers(many, thing):
            return False
        mask = sum([1 << bit for bit in thing])
        if seen & mask != 0 or values[row ^ mask] == values[row]:
            return False
        seen |= mask
    return True


def most_of(many, values):
    """The fewest asks, the most of certificates of both values, blocks, turns; the degree."""
    need_small_table(many, values)
    kinds = values_in_cubes(many, values)
    sizes = [len(certificate_in(kinds, many, row)) for row in range(1 << many)]
    return (
        least_in_cubes(many, values)[(FREE,) * many],
        max([size for size, value in zip(sizes, values) if value == 0] + [0]),
        max([size for size, value in zip(sizes, values) if value == 1] + [0]),
        max([len(blocks_in(many, values, row)) for row in range(1 << many)]),
        max([len(turning_in(many, values, row)) for row in range(1 << many)]),
        degree(sums_in(many, values)),
    )


def sums(many, values):
    """For each row what is added there, so that each value is the sum of all within its row."""
    need_small_table(many, values)
    return tuple(sums_in(many, values))


def sums_in(many, values):
    """The sums of a checked table."""
    found = list(values)
    for bit in range(many):
        for row in range(1 << many):
            if (row >> bit) & 1:
                found[row] -= found[row ^ (1 << bit)]
    return found


def degree(found):
    """The most bits 1 of a row with a sum other than 0."""
    return max([ones(row) for row, number in enumerate(found) if number != 0] + [0])


def ones(row):
    """How many bits of a row are 1."""
    count = 0
    while row > 0:
        row &= row - 1
        count += 1
    return count


def certificate_tree(many, values):
    """The tree that asks the certificate of one row of 1 after the other."""
    need_small_table(many, values)
    kinds = values_in_cubes(many, values)
    return tree_of_certificates(kinds, values, (FREE,) * many, ())


def tree_of_certificates(kinds, values, cube, wanted):
    """The tree for the alive rows, which are those of a cube, these bits being asked first."""
    many = len(cube)
    if kinds[cube] != BOTH_VALUES:
        return 0 if kinds[cube] == 1 else 1
    if not wanted:
        row = min([row for row in rows_of_cube(cube) if values[row] == 1])
        wanted = tuple([bit for bit in certificate_in(kinds, many, row) if cube[bit] == FREE])
    low, high = halves_at(cube, wanted[0])
    return (
        "ask",
        wanted[0],
        tree_of_certificates(kinds, values, high, wanted[1:]),
        tree_of_certificates(kinds, values, low, wanted[1:]),
    )


def rows_of_cube(cube):
    """The rows of a cube."""
    rows = [0]
    for place, bit in enumerate(cube):
        bits = (0, 1) if bit == FREE else (bit,)
        rows = [row | (one << place) for row in rows for one in bits]
    return rows


def formula_of_asks(many, tree):
    """The formula, with all signs, that is so of the rows for which a tree ends with 1."""
    need_tree(many, tree)
    if settled(tree) is not None:
        raise BadParameter(tree)
    return formula_by(tree)


def settled(tree):
    """The integer that all ends of a checked tree are, None if they are not the same."""
    if not is_branch(tree):
        return tree
    end = settled(tree[2])
    return end if end == settled(tree[3]) else None


def formula_by(tree):
    """The formula of a checked tree that is not settled."""
    _, bit, within, without = tree
    high = settled(within)
    low = settled(without)
    if high is not None and low is not None:
        return (bit, high)
    if high is not None:
        return joined((bit, high), high, formula_by(without))
    if low is not None:
        return joined((bit, 1 - low), low, formula_by(within))
    return ("or", ("and", (bit, 1), formula_by(within)), ("and", (bit, 0), formula_by(without)))


def joined(sign, end, formula):
    """The formula behind an ask one of whose halves has this end alone: without the sign's rows
    for 0, with them for 1."""
    return ("or" if end == 1 else "and", sign, formula)
