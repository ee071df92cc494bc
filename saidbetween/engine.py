"""Rectangles by masks: lots of YES and of NO as numbers, bit P for the row at the place P.

Tables over rectangles are lists of lists, the mask of the YES rows first; a lesser lot has a
lesser mask, so lots within another one come ahead of it.
"""

from saidbetween.kinds import is_lot, MOST_BITS
from saidbetween.questions import is_so


def mask_of(rows, lot):
    """The mask of a lot within these rows."""
    inside = set(lot)
    return sum([1 << place for place, row in enumerate(rows) if row in inside])


def lot_of(rows, mask):
    """The lot that a mask tells of these rows."""
    return tuple([row for place, row in enumerate(rows) if (mask >> place) & 1])


def mask_told(rows, thing):
    """The mask of a lot of at least one of these rows, None for what is none."""
    if not is_lot(MOST_BITS, thing) or len(thing) == 0 or len(set(thing) - set(rows)) > 0:
        return None
    return mask_of(rows, thing)


def sign_masks(question):
    """For each sign (SIGN, A, B): the YES rows of which it is so, the NO rows of which not."""
    signs, yes, no = question[1:]
    return [
        (
            sign,
            mask_of(yes, [row for row in yes if is_so(sign, row)]),
            mask_of(no, [row for row in no if not is_so(sign, row)]),
        )
        for sign in signs
    ]


def parting_signs(question):
    """The table of the first sign that parts each rectangle, None where none does."""
    masks = sign_masks(question)
    return [
        [first_parting(masks, yes, no) for no in range(1 << len(question[3]))]
        for yes in range(1 << len(question[2]))
    ]


def first_parting(masks, yes, no):
    """The first sign that parts two lots, or None."""
    for sign, so, not_so in masks:
        if (yes & so) == yes and (no & not_so) == no:
            return sign
    return None


def lots_within(mask):
    """All lots within a lot, () and itself among them, ascending."""
    out = []
    part = 0
    while part != mask:
        out.append(part)
        # The next greater number that has no bit outside of the mask.
        part = (part - mask) & mask
    out.append(mask)
    return out


def partings(mask):
    """Each parting of a lot into two, neither (), once: the lots with its first row."""
    first = mask & -mask
    return [first | part for part in lots_within(mask ^ first) if (first | part) != mask]


def rectangles(yes_count, no_count):
    """All rectangles of so many rows, each behind those that lie in it."""
    return [(yes, no) for yes in range(1, 1 << yes_count) for no in range(1, 1 << no_count)]


def greatest_within(told, yes_count, no_count, none):
    """The table of the greatest number told of a rectangle within each one, `none` if none is.

    `told` has numbers, none of them less than `none`, by the pairs of masks of rectangles.
    """
    table = [[none] * (1 << no_count) for _ in range(1 << yes_count)]
    for yes, no in rectangles(yes_count, no_count):
        lesser = [table[yes ^ (1 << place)][no] for place in range(yes_count) if (yes >> place) & 1]
        lesser += [table[yes][no ^ (1 << place)] for place in range(no_count) if (no >> place) & 1]
        table[yes][no] = max(lesser + [told.get((yes, no), none)])
    return table
