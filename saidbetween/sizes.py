"""The fewest leaves of a question, and size books that fewer will not do."""

from saidbetween.engine import are_lots, greatest_within, growing, least_by_both, least_table
from saidbetween.engine import lots_of, masks_of, question_field, together, whole_talk
from saidbetween.errors import BadParameter
from saidbetween.kinds import is_integer, is_set_of_entries, is_tuple
from saidbetween.questions import MOST_ROWS, need_few_rows, need_parted, need_question
from saidbetween.talks import is_talk
from saidbetween.walks import ends

MOST_LEAVES = 4096


def least_leaves(question):
    """The fewest leaves, a lean talk with so many ends, and a size book that fewer will not do."""
    need_few_rows(need_question(question), MOST_ROWS)
    need_parted(question)
    field = question_field(question)
    table = least_table(field, 1, together)
    return (table[-1][-1], whole_talk(field, table, together), size_book(field, table))


def size_book(field, table):
    """The rectangles that need more leaves than all within them, and that of all rows."""
    entries = [
        (leaves,) + lots_of(field, yes, no) for leaves, yes, no in growing(field, table, 1)
    ]
    whole = (table[-1][-1], field.yes_rows, field.no_rows)
    return tuple(sorted(entries if whole in entries else entries + [whole]))


def is_least_leaves(question, value):
    """Whether a value is a triple as `least_leaves` tells it; its talk need not be lean."""
    need_few_rows(need_question(question), MOST_ROWS)
    if not is_tuple(value, 3) or not is_talk(question, value[1]):
        return False
    leaves = ends(value[1])
    if not is_integer(value[0], leaves, leaves):
        return False
    return is_size_book_for(question_field(question), leaves, value[2])


def is_size_book(question, leaves, value):
    """Whether a value is a size book that has an entry with at least so many leaves."""
    need_question(question)
    if not is_integer(leaves, 1, MOST_LEAVES):
        raise BadParameter(leaves)
    need_few_rows(question, MOST_ROWS)
    return is_size_book_for(question_field(question), leaves, value)


def is_size_book_for(field, leaves, value):
    """Whether a value is a size book that has an entry with at least so many leaves."""
    if not is_set_of_entries(field, value, is_entry):
        return False
    return any([entry[0] >= leaves for entry in value]) and all_stand(field, value)


def is_entry(field, thing):
    """Whether a thing is an entry (LEAVES, A, B)."""
    return (
        is_tuple(thing, 3)
        and is_integer(thing[0], 1, MOST_LEAVES)
        and are_lots(field, thing[1], thing[2])
    )


def all_stand(field, book):
    """Whether each entry of a size book stands."""
    # If one stands, all with fewer leaves and the same lots do: the greatest one is looked at.
    told = {}
    for leaves, yes_lot, no_lot in book:
        at = masks_of(field, yes_lot, no_lot)
        told[at] = max(told.get(at, 1), leaves)
    within = greatest_within(field, told, 1)
    return all([stands(field, within, at, leaves) for at, leaves in told.items()])


def stands(field, within, at, leaves):
    """Whether an entry stands, told the greatest leaves within each rectangle."""
    yes, no = at
    if leaves == 1:
        return True
    if field.ends[yes][no] is not None:
        return False
    return least_by_both(field, within, together, yes, no) >= leaves
