"""Layers of talks: the fewest leaves with few layers, and layer books that fewer will not do."""

from saidbetween.engine import are_lots, best_of_partings, greatest_within, growing, least_by
from saidbetween.engine import lots_of, masks_of, NEVER, partings_by, question_field, table_of
from saidbetween.engine import together
from saidbetween.errors import BadParameter
from saidbetween.kinds import is_integer, is_set_of_entries, is_tuple, is_word
from saidbetween.questions import need_few_rows, need_question
from saidbetween.talks import HANDS, is_talk, need_talk
from saidbetween.walks import ends, is_branch

MOST_LAYER_ROWS = 10
MOST_LAYERS = 6
MOST_LEAVES = 1024
OTHER_HAND = {"yes": "no", "no": "yes"}


def need_hand(hand):
    """A hand."""
    if not is_word(hand, HANDS):
        raise BadParameter(hand)
    return hand


def need_layers(layers):
    """A number of layers."""
    if not is_integer(layers, 1, MOST_LAYERS):
        raise BadParameter(layers)
    return layers


def layers_from(question, talk, hand):
    """The least number of layers that a talk has from a hand."""
    need_talk(question, talk)
    return layers_behind(talk, need_hand(hand))


def layers_behind(talk, hand):
    """The least number of layers that a checked talk has from a hand."""
    if not is_branch(talk):
        return 1
    if talk[0] != hand:
        return 1 + layers_behind(talk, OTHER_HAND[hand])
    return max(layers_behind(talk[2], hand), layers_behind(talk[3], hand))


def fewest_by_layers(question, layers, hand):
    """The fewest ends with so many layers from a hand, such a talk, and a layer book.

    The first two are 0 and None if there is no such talk.
    """
    need_question(question)
    need_layers(layers)
    need_hand(hand)
    need_few_rows(question, MOST_LAYER_ROWS)
    field = question_field(question)
    tables = tables_by_layers(field, layers, hand)
    leaves = tables[-1][1][-1][-1]
    book = layer_book(field, tables)
    if leaves == NEVER:
        return (0, None, book)
    return (leaves, layer_talk(field, tables, len(field.ends) - 1, len(field.ends[0]) - 1), book)


def tables_by_layers(field, layers, hand):
    """The pairs (HAND, TABLE) of the fewest ends with 1, 2, .. layers.

    Both hands are in turn, so that the last one is this hand.
    """
    tables = []
    speaker = hand if layers % 2 == 1 else OTHER_HAND[hand]
    behind = table_of(field, NEVER)
    for _ in range(layers):
        behind = layer_table(field, speaker, behind)
        tables.append((speaker, behind))
        speaker = OTHER_HAND[speaker]
    return tables


def layer_table(field, hand, behind):
    """The table of the fewest ends, if `behind` has those with a layer less from the other hand."""
    table = table_of(field, 0)
    for yes, no in field.rectangles:
        if field.ends[yes][no] is None:
            spoken = least_by(field, hand, table, together, yes, no)
            table[yes][no] = min(spoken, behind[yes][no])
        else:
            table[yes][no] = 1
    return table


def layer_talk(field, tables, yes, no):
    """A talk for a rectangle with as few ends as the last of these tables tells."""
    if field.ends[yes][no] is not None:
        return field.ends[yes][no]
    hand, table = tables[-1]
    if len(tables) > 1 and tables[-2][1][yes][no] == table[yes][no]:
        return layer_talk(field, tables[:-1], yes, no)
    choices = partings_by(field, hand, yes, no)
    _, lot, first, second = best_of_partings(choices, table, together)
    return (
        hand,
        lot,
        layer_talk(field, tables, first[0], first[1]),
        layer_talk(field, tables, second[0], second[1]),
    )


def layer_book(field, tables):
    """For each number of layers the rectangles that need more ends than all within them."""
    return tuple(sorted([
        (number + 1, hand, 0 if leaves == NEVER else leaves) + lots_of(field, yes, no)
        for number, (hand, table) in enumerate(tables)
        for leaves, yes, no in growing(field, table, 1)
    ]))


def is_fewest_by_layers(question, layers, hand, value):
    """Whether a value is a triple as `fewest_by_layers` tells it."""
    need_question(question)
    need_layers(layers)
    need_hand(hand)
    need_few_rows(question, MOST_LAYER_ROWS)
    if not is_tuple(value, 3) or not is_integer(value[0], 0, MOST_LEAVES):
        return False
    leaves, talk, book = value
    if leaves == 0 and talk is not None:
        return False
    if leaves > 0 and not is_layer_talk(question, layers, hand, leaves, talk):
        return False
    return is_layer_book_for(question_field(question), (layers, hand), leaves, book)


def is_layer_talk(question, layers, hand, leaves, value):
    """Whether a value is a talk that tells the question with so many ends and few layers."""
    return (
        is_talk(question, value)
        and ends(value) == leaves
        and layers_behind(value, hand) <= layers
    )


def is_layer_book(question, layers, hand, leaves, value):
    """Whether a value is a layer book that says at least so many leaves of all rows."""
    need_question(question)
    need_layers(layers)
    need_hand(hand)
    if not is_integer(leaves, 0, MOST_LEAVES):
        raise BadParameter(leaves)
    need_few_rows(question, MOST_LAYER_ROWS)
    return is_layer_book_for(question_field(question), (layers, hand), leaves, value)


def is_layer_book_for(field, state, leaves, value):
    """Whether a value is a layer book that says so, state being (LAYERS, HAND)."""
    if not is_set_of_entries(field, value, is_entry):
        return False
    told = told_by_state(field, value)
    said_of = {one: greatest_within(field, told[one], 1) for one in told}
    if said_of[state][-1][-1] < counted(leaves):
        return False
    return all([
        stands(field, said_of, one, at, greatest)
        for one in told
        for at, greatest in told[one].items()
    ])


def is_entry(field, thing):
    """Whether a thing is an entry (LAYERS, HAND, LEAVES, A, B)."""
    return (
        is_tuple(thing, 5)
        and is_integer(thing[0], 1, MOST_LAYERS)
        and is_word(thing[1], HANDS)
        and is_integer(thing[2], 0, MOST_LEAVES)
        and are_lots(field, thing[3], thing[4])
    )


def counted(leaves):
    """As what a number of leaves counts: none at all as more than any."""
    return NEVER if leaves == 0 else leaves


def told_by_state(field, book):
    """For each (LAYERS, HAND) the greatest leaves that entries tell of rectangles."""
    # If an entry stands, all with fewer leaves and else the same do: the greatest is looked at.
    told = {(layers, hand): {} for layers in range(1, MOST_LAYERS + 1) for hand in HANDS}
    for layers, hand, leaves, yes_lot, no_lot in book:
        own = told[(layers, hand)]
        at = masks_of(field, yes_lot, no_lot)
        own[at] = max(own.get(at, 1), counted(leaves))
    return told


def stands(field, said_of, state, at, leaves):
    """Whether an entry stands, told what entries say of rectangles for each (LAYERS, HAND)."""
    layers, hand = state
    yes, no = at
    if leaves == 1:
        return True
    if field.ends[yes][no] is not None:
        return False
    if layers > 1 and said_of[(layers - 1, OTHER_HAND[hand])][yes][no] < leaves:
        return False
    return least_by(field, hand, said_of[state], together, yes, no) >= leaves
