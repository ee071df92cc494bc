"""The fewest bits and books for bits: what questions and grids have in common."""

from saidbetween.engine import are_lots, growing, least_table, lesser_numbers, lots_of, masks_of
from saidbetween.engine import one_more, table_of, whole_talk
from saidbetween.errors import BadParameter
from saidbetween.kinds import is_integer, is_set_of_entries, is_tuple

MOST_BOOK_BITS = 400


def need_book_bits(bits):
    """A number of bits that a book can be for."""
    if not is_integer(bits, 0, MOST_BOOK_BITS):
        raise BadParameter(bits)
    return bits


def least_told(field):
    """The least bits for all rows, a talk with so many, and a book that fewer will not do."""
    table = least_table(field, 0, one_more)
    return (table[-1][-1], whole_talk(field, table, one_more), book_of(field, table))


def book_of(field, table):
    """For K = 0, 1, .., up to a bit less than all rows need: the least rectangles beyond K bits."""
    # They stand: if a lot of one is parted, one of both parts needs more than K - 1 bits, and so
    # does a least rectangle within it.
    return tuple(sorted([
        (bits,) + lots_of(field, yes, no)
        for number, yes, no in growing(field, table, 0)
        for bits in range(max(lesser_numbers(table, yes, no)), number)
    ]))


def counts_of(field):
    """How many rectangles can be talked in at most 0, 1, .. bits, up to what all rows need."""
    table = least_table(field, 0, one_more)
    needed = [table[yes][no] for yes, no in field.rectangles]
    return tuple([
        len([number for number in needed if number <= bits]) for bits in range(table[-1][-1] + 1)
    ])


def shows_least(field, bits, value):
    """Whether a triple, whose talk is right and has these bits, shows that they are the least."""
    told, _, book = value
    if not is_integer(told, bits, bits):
        return False
    if bits == 0:
        return is_tuple(book, 0)
    return is_book_for(field, bits - 1, book)


def is_book_for(field, bits, value):
    """Whether a value is a book that shows that no talk of so many bits tells all rows."""
    if not is_set_of_entries((field, bits), value, is_entry):
        return False
    return any([entry[0] == bits for entry in value]) and all_stand(field, value)


def is_entry(about, thing):
    """Whether a thing is an entry (K, A, B), K at most the bits of the book."""
    field, bits = about
    return (
        is_tuple(thing, 3)
        and is_integer(thing[0], 0, bits)
        and are_lots(field, thing[1], thing[2])
    )


def all_stand(field, book):
    """Whether each entry of a book stands."""
    told = told_by_rectangle(field, book)
    within = all_within(field, told)
    for (yes, no), own in told.items():
        shown = shown_at(field, within, yes, no)
        if (own & shown) != own:
            return False
    return True


def told_by_rectangle(field, book):
    """For each rectangle of a book the K of its entries: a mask, bit K for K."""
    told = {}
    for bits, yes_lot, no_lot in book:
        at = masks_of(field, yes_lot, no_lot)
        told[at] = told.get(at, 0) | (1 << bits)
    return told


def all_within(field, told):
    """The table of the masks of all K that are told of rectangles within each one."""
    table = table_of(field, 0)
    for yes, no in field.rectangles:
        found = told.get((yes, no), 0)
        for lesser in lesser_numbers(table, yes, no):
            found |= lesser
        table[yes][no] = found
    return table


def shown_at(field, within, yes, no):
    """The mask of the K for which an entry of a rectangle stands."""
    # The lot itself, and (), want an entry within the rectangle; all others want one in one of
    # both parts.
    wanted = within[yes][no]
    for one, rest in field.yes_partings[yes]:
        wanted &= within[one][no] | within[rest][no]
    for one, rest in field.no_partings[no]:
        wanted &= within[yes][one] | within[yes][rest]
    return (wanted << 1) | (1 if field.ends[yes][no] is None else 0)
