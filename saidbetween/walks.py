"""What formulas, talks and trees share: a walk through their things, their depth, their ends.

Each thing of them is an end, or a tuple that begins with a word and whose last two things
are its parts; the place of a part in the tuple is its step on a path.
"""

from saidbetween.errors import TooGreat

MOST_DEPTH = 60

END = "end"
BRANCH = "branch"
LABEL = "label"
WRONG = "wrong"


def first_fault(about, whole, most, kind_of):
    """The path to the first wrong place of the walk, None if there is none.

    kind_of(about, thing) tells END, BRANCH, LABEL (a branch whose thing 1 is wrong) or WRONG.
    """
    # A list of what is left, no calls within calls: what is handed in may be of any depth.
    left = [((), whole)]
    seen = 0
    while left:
        path, thing = left.pop()
        seen += 1
        if seen > most:
            raise TooGreat(most)
        kind = kind_of(about, thing)
        if kind == WRONG:
            return path
        if kind == END:
            continue
        if len(path) == MOST_DEPTH:
            raise TooGreat(MOST_DEPTH)
        if kind == LABEL:
            return path + (1,)
        last = len(thing) - 1
        left.append((path + (last,), thing[last]))
        left.append((path + (last - 1,), thing[last - 1]))
    return None


def is_branch(thing):
    """Whether a checked thing has parts."""
    return type(thing) is tuple and type(thing[0]) is str


def depth(thing):
    """The most branches on a way from a checked thing to an end."""
    if not is_branch(thing):
        return 0
    return 1 + max(depth(thing[-2]), depth(thing[-1]))


def ends(thing):
    """The ends of a checked thing, counted where they stand."""
    if not is_branch(thing):
        return 1
    return ends(thing[-2]) + ends(thing[-1])
