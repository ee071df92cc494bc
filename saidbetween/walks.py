"""What formulas, talks, speeches and trees share: walks through their things, depth, ends.

Each thing of them is an end, or a tuple that begins with a word and whose last two things
are its parts; the place of a part in the tuple is its step on a path. Talks and speeches have
a lot of what one hand may have as their thing 1; "rows" are here the columns of a grid, too.
"""

from saidbetween.errors import TooGreat

MOST_DEPTH = 60
# The hands that have a row of YES, or a row of a grid; the other ones have NO, or a column.
FIRST_HANDS = ("yes", "row")

END = "end"
BRANCH = "branch"
LABEL = "label"
WRONG = "wrong"


def first_fault(about, whole, most, kind_of):
    """The path to the first wrong place of the walk, None if there is none.

    kind_of(about, thing) tells END, BRANCH, LABEL (a branch whose thing 1 is wrong) or WRONG.
    """
    # A list of what is left, no calls within calls: what is handed in may be of any depth.
    left = [((), whole)]
    seen = 0
    while left:
        path, thing = left.pop()
        seen += 1
        if seen > most:
            raise TooGreat(most)
        kind = kind_of(about, thing)
        if kind == WRONG:
            return path
        if kind == END:
            continue
        if len(path) == MOST_DEPTH:
            raise TooGreat(MOST_DEPTH)
        if kind == LABEL:
            return path + (1,)
        last = len(thing) - 1
        left.append((path + (last,), thing[last]))
        left.append((path + (last - 1,), thing[last - 1]))
    return None


def is_branch(thing):
    """Whether a checked thing has parts."""
    return type(thing) is tuple and type(thing[0]) is str


def depth(thing):
    """The most branches on a way from a checked thing to an end."""
    if not is_branch(thing):
        return 0
    return 1 + max(depth(thing[-2]), depth(thing[-1]))


def ends(thing):
    """The ends of a checked thing, counted where they stand."""
    if not is_branch(thing):
        return 1
    return ends(thing[-2]) + ends(thing[-1])


def way_of_both(talk, yes, no):
    """What is said for what both hands have, and the end to which they come."""
    out = []
    while is_branch(talk):
        hand, lot, within, without = talk
        bit = 1 if (yes if hand in FIRST_HANDS else no) in lot else 0
        out.append((hand, bit))
        talk = within if bit == 1 else without
    return (tuple(out), talk)


def rows_in(rows, lot):
    """Those of the rows that are in the lot, ascending."""
    return tuple(sorted(set(rows) & set(lot)))


def rows_not_in(rows, lot):
    """Those of the rows that are not in the lot, ascending."""
    return tuple(sorted(set(rows) - set(lot)))


def parts_with_rows(talk, yes, no):
    """Both talks behind the first bit, each with the rows of both hands that go on with it."""
    hand, lot, within, without = talk
    if hand in FIRST_HANDS:
        return ((within, rows_in(yes, lot), no), (without, rows_not_in(yes, lot), no))
    return ((within, yes, rows_in(no, lot)), (without, yes, rows_not_in(no, lot)))


def ends_with_rows(talk, yes, no):
    """The triples (A, B, SIGN) of all ends of a checked talk."""
    if not is_branch(talk):
        return [(yes, no, talk)]
    return [
        end
        for part, yes_there, no_there in parts_with_rows(talk, yes, no)
        for end in ends_with_rows(part, yes_there, no_there)
    ]
