"""Talks: checked, followed by two rows and by all rows, counted."""

from saidbetween.errors import BadParameter, BadTalk, TooGreat
from saidbetween.kinds import is_lot, is_row_in, is_sign_in, is_tuple, is_word
from saidbetween.questions import is_so, need_question
from saidbetween.walks import BRANCH, depth, END, ends, ends_with_rows, first_fault, is_branch
from saidbetween.walks import LABEL, parts_with_rows, way_of_both, WRONG

MOST_TALKS = 400
HANDS = ("yes", "no")


def need_talk(question, talk):
    """A talk of the question: what was handed in, if it is one."""
    path = first_fault(need_question(question), talk, MOST_TALKS, kind_of_talk)
    if path is not None:
        raise BadTalk(path)
    return talk


def kind_of_talk(question, thing):
    """What a thing is on the walk through a talk."""
    if is_sign_in(question[1], thing):
        return END
    if not is_tuple(thing, 4) or not is_word(thing[0], HANDS):
        return WRONG
    return BRANCH if is_lot(question[0], thing[1]) else LABEL


def said(question, talk, yes, no):
    """What is said for two rows, and the end to which they come."""
    need_talk(question, talk)
    for row, rows in ((yes, question[2]), (no, question[3])):
        if not is_row_in(rows, row):
            raise BadParameter(row)
    return way_of_both(talk, yes, no)


def pairs_at(question, talk):
    """For each end the rows of both hands that come there, and its sign."""
    need_talk(question, talk)
    return tuple(ends_with_rows(talk, question[2], question[3]))


def first_failing(question, talk):
    """The first pair (YES row, NO row) whose end does not part them, or None."""
    failing = [
        (yes_row, no_row)
        for yes, no, sign in pairs_at(question, talk)
        for yes_row in yes
        for no_row in no
        if not is_so(sign, yes_row) or is_so(sign, no_row)
    ]
    return min(failing) if failing else None


def is_talk(question, value):
    """Whether a value is a talk that tells the question."""
    need_question(question)
    try:
        return first_failing(question, value) is None
    except (BadTalk, TooGreat):
        return False


def bits_of(question, talk):
    """The bits of a talk."""
    return depth(need_talk(question, talk))


def ends_of(question, talk):
    """How many ends a talk has."""
    return ends(need_talk(question, talk))


def turns_of(question, talk):
    """The most turns on a way through a talk."""
    return turns_behind(need_talk(question, talk), "")


def turns_behind(talk, last_hand):
    """The most turns that begin in a checked talk, if this hand has spoken last."""
    if not is_branch(talk):
        return 0
    hand = talk[0]
    begun = 0 if hand == last_hand else 1
    return begun + max(turns_behind(talk[2], hand), turns_behind(talk[3], hand))


def is_lean(question, talk):
    """Whether a talk is lean for the rows of the question."""
    need_talk(question, talk)
    return is_lean_for(talk, question[2], question[3])


def is_lean_for(talk, yes, no):
    """Whether a checked talk is lean for two lots."""
    if not is_branch(talk):
        return True
    for part, yes_there, no_there in parts_with_rows(talk, yes, no):
        speaking = yes_there if talk[0] == "yes" else no_there
        if len(speaking) == 0 or not is_lean_for(part, yes_there, no_there):
            return False
    return True
