"""Sessions: a question mended by deeds, and asked."""

from saidbetween.depths import least_bits
from saidbetween.errors import BadDeed, BadParameter, BadQuestion, NoRow, TooGreat
from saidbetween.kinds import is_row, is_row_in, is_sign, is_tuple, is_word
from saidbetween.questions import need_question
from saidbetween.sizes import least_leaves

MOST_PAST = 200
CHANGES = ("yes", "no", "off", "sign", "unsign")
OTHERS = ("bits", "leaves", "undo")


def begun(question):
    """The state of a question in which nothing was done."""
    return (need_question(question), ())


def need_state(state):
    """A state: what was handed in, if it is one."""
    if not is_tuple(state, 2):
        raise BadDeed(())
    question, past = state
    need_question(question)
    if type(past) is not tuple or len(past) > MOST_PAST:
        raise BadDeed((1,))
    for place, thing in enumerate(past):
        if not is_question(thing):
            raise BadDeed((1, place))
    return state


def is_question(thing):
    """Whether a thing is a question."""
    try:
        need_question(thing)
    except BadQuestion:
        return False
    return True


def need_deed(deed):
    """A deed, whatever stands behind its word."""
    if is_tuple(deed, 2) and is_word(deed[0], CHANGES):
        return deed
    if is_tuple(deed, 1) and is_word(deed[0], OTHERS):
        return deed
    raise BadDeed(())


def session_step(state, deed):
    """The state behind a deed, and its answer."""
    return stepped(need_state(state), need_deed(deed))


def stepped(state, deed):
    """The state behind a deed, and its answer, the state and the deed's form being checked."""
    question, past = state
    word = deed[0]
    if word == "bits":
        return (state, least_bits(question)[0])
    if word == "leaves":
        return (state, least_leaves(question)[0])
    if word == "undo":
        if len(past) == 0:
            raise NoRow()
        return ((past[-1], past[:-1]), None)
    fresh = need_question(changed(question, word, deed[1]))
    if len(past) == MOST_PAST:
        raise TooGreat(MOST_PAST)
    return ((fresh, past + (question,)), None)


def changed(question, word, thing):
    """What comes of a question by a deed that changes it; it may be no question."""
    if word in ("sign", "unsign"):
        return with_sign_changed(question, word, thing)
    if word == "off":
        return without_row(question, thing)
    many, signs, yes, no = question
    if not is_row(many, thing) or thing in (yes if word == "yes" else no):
        raise BadParameter(thing)
    if word == "yes":
        return (many, signs, with_one(yes, thing), without_one(no, thing))
    return (many, signs, without_one(yes, thing), with_one(no, thing))


def without_row(question, row):
    """A question without a row of YES or NO."""
    many, signs, yes, no = question
    if not is_row_in(yes + no, row):
        raise BadParameter(row)
    return (many, signs, without_one(yes, row), without_one(no, row))


def with_sign_changed(question, word, sign):
    """A question with a sign more, or less."""
    many, signs, yes, no = question
    if not is_sign(many, sign) or (sign in signs) == (word == "sign"):
        raise BadParameter(sign)
    told = with_one(signs, sign) if word == "sign" else without_one(signs, sign)
    return (many, told, yes, no)


def with_one(things, thing):
    """A SET with a thing more."""
    return tuple(sorted(things + (thing,)))


def without_one(things, thing):
    """A SET without a thing, whether it was in it or not."""
    return tuple([one for one in things if one != thing])


def played(question, deeds):
    """The state behind all deeds, and their answers."""
    state = begun(question)
    if type(deeds) is not tuple:
        raise BadParameter(deeds)
    answers = []
    for deed in deeds:
        state, answer = stepped(state, need_deed(deed))
        answers.append(answer)
    return (state, tuple(answers))
