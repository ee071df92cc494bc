"""Rectangles by masks: lots of YES and of NO as numbers, bit P for the row at the place P.

Tables over rectangles are lists of lists, the mask of the YES rows first; a lesser lot has a
lesser mask, so lots within another one come ahead of it. For a grid YES are its rows, NO its
columns. What the tables tell is a NUMBER: the least bits, the fewest ends.
"""

from saidbetween.kinds import is_lot, MOST_BITS
from saidbetween.questions import is_so
from saidbetween.talks import HANDS

# More than any number of bits or of ends: there is no talk.
NEVER = 1 << 30


def mask_of(rows, lot):
    """The mask of a lot within these rows."""
    inside = set(lot)
    return sum([1 << place for place, row in enumerate(rows) if row in inside])


def lot_of(rows, mask):
    """The lot that a mask tells of these rows."""
    return tuple([row for place, row in enumerate(rows) if (mask >> place) & 1])


def all_lots(rows):
    """All lots of at least one of these rows."""
    return [lot_of(rows, mask) for mask in range(1, 1 << len(rows))]


def mask_told(rows, thing):
    """The mask of a lot of at least one of these rows, None for what is none."""
    if not is_lot(MOST_BITS, thing) or len(thing) == 0 or len(set(thing) - set(rows)) > 0:
        return None
    return mask_of(rows, thing)


def sign_masks(question):
    """For each sign (SIGN, A, B): the YES rows of which it is so, the NO rows of which not."""
    signs, yes, no = question[1:]
    return [
        (
            sign,
            mask_of(yes, [row for row in yes if is_so(sign, row)]),
            mask_of(no, [row for row in no if not is_so(sign, row)]),
        )
        for sign in signs
    ]


def parting_signs(question):
    """The table of the first sign that parts each rectangle, None where none does."""
    masks = sign_masks(question)
    return [
        [first_parting(masks, yes, no) for no in range(1 << len(question[3]))]
        for yes in range(1 << len(question[2]))
    ]


def first_parting(masks, yes, no):
    """The first sign that parts two lots, or None."""
    for sign, so, not_so in masks:
        if (yes & so) == yes and (no & not_so) == no:
            return sign
    return None


def lots_within(mask):
    """All lots within a lot, () and itself among them, ascending."""
    out = []
    part = 0
    while part != mask:
        out.append(part)
        # The next greater number that has no bit outside of the mask.
        part = (part - mask) & mask
    out.append(mask)
    return out


def partings(mask):
    """Each parting of a lot into two, neither (), once, as pairs: first that with its first row."""
    first = mask & -mask
    return [
        (first | part, mask ^ first ^ part)
        for part in lots_within(mask ^ first)
        if (first | part) != mask
    ]


def all_partings(count):
    """For each lot of so many rows its partings."""
    return [partings(mask) for mask in range(1 << count)]


def all_rectangles(yes_count, no_count):
    """All rectangles of so many rows, each behind those that lie in it."""
    return [(yes, no) for yes in range(1, 1 << yes_count) for no in range(1, 1 << no_count)]


class Field:
    """The rows of both hands, the end of each rectangle that has one, else None, and partings."""

    def __init__(self, hands, yes_rows, no_rows, ends):
        self.hands = hands
        self.yes_rows = yes_rows
        self.no_rows = no_rows
        self.ends = ends
        self.rectangles = all_rectangles(len(yes_rows), len(no_rows))
        self.yes_partings = all_partings(len(yes_rows))
        self.no_partings = all_partings(len(no_rows))


def question_field(question):
    """The rectangles of a checked question; ends are signs."""
    return Field(HANDS, question[2], question[3], parting_signs(question))


def table_of(field, number):
    """A table with this number for each rectangle."""
    return [[number] * (1 << len(field.no_rows)) for _ in range(1 << len(field.yes_rows))]


def lots_of(field, yes, no):
    """Both lots of a rectangle."""
    return (lot_of(field.yes_rows, yes), lot_of(field.no_rows, no))


def masks_of(field, yes_lot, no_lot):
    """Both masks of a rectangle."""
    return (mask_of(field.yes_rows, yes_lot), mask_of(field.no_rows, no_lot))


def are_lots(field, yes_thing, no_thing):
    """Whether two things are the lots of a rectangle."""
    return (
        mask_told(field.yes_rows, yes_thing) is not None
        and mask_told(field.no_rows, no_thing) is not None
    )


def one_more(first, second):
    """The bits of a talk whose parts have so many."""
    return 1 + max(first, second)


def together(first, second):
    """The ends of a talk whose parts have so many."""
    return first + second


def least_by(field, hand, parts, join, yes, no):
    """The least join of what a table tells of both parts, if this hand parts its lot."""
    if hand == field.hands[0]:
        told = [join(parts[one][no], parts[rest][no]) for one, rest in field.yes_partings[yes]]
    else:
        row = parts[yes]
        told = [join(row[one], row[rest]) for one, rest in field.no_partings[no]]
    return min(told + [NEVER])


def least_by_both(field, parts, join, yes, no):
    """The least join of what a table tells of both parts of a parting of one of both lots."""
    first, second = field.hands
    return min(
        least_by(field, first, parts, join, yes, no), least_by(field, second, parts, join, yes, no)
    )


def filled(field, table, parts, at_end, join):
    """A table filled: `at_end` for what has an end, else by what `parts` tells of its parts."""
    for yes, no in field.rectangles:
        if field.ends[yes][no] is None:
            table[yes][no] = least_by_both(field, parts, join, yes, no)
        else:
            table[yes][no] = at_end
    return table


def least_table(field, at_end, join):
    """The table of the least numbers, NEVER where no talk is; nothing need be said to no row."""
    table = table_of(field, 0)
    # The table tells of the parts, too: they have been filled in already.
    return filled(field, table, table, at_end, join)


def next_table(field, parts, at_end, join):
    """The table of the least numbers with a bit more than those that `parts` tells."""
    return filled(field, table_of(field, 0), parts, at_end, join)


def partings_by(field, hand, yes, no):
    """The partings of one hand's lot in a rectangle: (HAND, LOT, PART, PART), parts rectangles."""
    if hand == field.hands[0]:
        return [
            (hand, lot_of(field.yes_rows, one), (one, no), (rest, no))
            for one, rest in field.yes_partings[yes]
        ]
    return [
        (hand, lot_of(field.no_rows, one), (yes, one), (yes, rest))
        for one, rest in field.no_partings[no]
    ]


def best_of_partings(choices, parts, join):
    """The first of some partings with the least join of what a table tells of both parts."""
    return min(choices, key=lambda choice: join_of(parts, join, choice[2], choice[3]))


def join_of(parts, join, first, second):
    """The join of what a table tells of two rectangles."""
    return join(parts[first[0]][first[1]], parts[second[0]][second[1]])


def talk_by(field, tables, join, yes, no):
    """A talk for a rectangle, with the number that the last table tells, less than NEVER.

    The table ahead of the last one tells of the parts, that ahead of it of their parts, and so on.
    """
    if field.ends[yes][no] is not None:
        return field.ends[yes][no]
    choices = [
        choice for hand in field.hands for choice in partings_by(field, hand, yes, no)
    ]
    hand, lot, first, second = best_of_partings(choices, tables[-2], join)
    return (
        hand,
        lot,
        talk_by(field, tables[:-1], join, first[0], first[1]),
        talk_by(field, tables[:-1], join, second[0], second[1]),
    )


def whole_talk(field, table, join):
    """A talk for all rows, with the number that a table of the least numbers tells."""
    # Behind each bit both parts have fewer rows: there are fewer bits than rows.
    count = len(field.yes_rows) + len(field.no_rows)
    return talk_by(field, [table] * count, join, len(table) - 1, len(table[0]) - 1)


def lesser_numbers(table, yes, no):
    """What a table tells of what has one row less than a rectangle."""
    numbers = [table[yes ^ (1 << at)][no] for at in range(yes.bit_length()) if (yes >> at) & 1]
    row = table[yes]
    return numbers + [row[no ^ (1 << at)] for at in range(no.bit_length()) if (no >> at) & 1]


def growing(field, table, least):
    """The triples (NUMBER, YES, NO) of what grows.

    These are the rectangles of which a table tells more than `least`, and more than of any that
    lies within.
    """
    return [
        (table[yes][no], yes, no)
        for yes, no in field.rectangles
        if table[yes][no] > max(lesser_numbers(table, yes, no) + [least])
    ]


def greatest_within(field, told, none):
    """The table of the greatest number told of a rectangle within each one, `none` if none is.

    `told` has numbers, none of them less than `none`, by the pairs of masks of rectangles.
    """
    table = table_of(field, none)
    for yes, no in field.rectangles:
        table[yes][no] = max(lesser_numbers(table, yes, no) + [told.get((yes, no), none)])
    return table
