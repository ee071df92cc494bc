"""Questions: checked, parted, and made of others."""

from saidbetween.errors import BadParameter, BadQuestion, NoTalk, TooGreat
from saidbetween.kinds import first_wrong_sign, is_integer, is_lot, is_many, is_sign, is_tuple
from saidbetween.kinds import MOST_BITS, need_many, need_signs, need_values

MOST_ROWS = 12


def need_question(question):
    """A question: what was handed in, if it is one."""
    if not is_tuple(question, 4):
        raise BadQuestion(())
    many, signs, yes, no = question
    if not is_many(many):
        raise BadQuestion((0,))
    if type(signs) is not tuple:
        raise BadQuestion((1,))
    wrong = first_wrong_sign(many, signs)
    if wrong is not None:
        raise BadQuestion((1, wrong))
    if not is_full_lot(many, yes):
        raise BadQuestion((2,))
    if not is_full_lot(many, no) or have_common_row(yes, no):
        raise BadQuestion((3,))
    return question


def is_full_lot(many, thing):
    """Whether a thing is a lot of at least one row."""
    return is_lot(many, thing) and len(thing) > 0


def have_common_row(yes, no):
    """Whether two lots have a common row."""
    return len(set(yes) & set(no)) > 0


def is_so(sign, row):
    """Whether a sign is so of a row."""
    return (row >> sign[0]) & 1 == sign[1]


def is_parting(sign, yes, no):
    """Whether a sign parts two lots."""
    return all(is_so(sign, row) for row in yes) and not any(is_so(sign, row) for row in no)


def bit_at(row, place):
    """A bit of a row."""
    if not is_integer(row, 0, (1 << MOST_BITS) - 1):
        raise BadParameter(row)
    if not is_integer(place, 0, MOST_BITS - 1):
        raise BadParameter(place)
    return (row >> place) & 1


def parted(question, sign, yes, no):
    """Whether a sign of the question's bits parts two lots of any rows."""
    many = need_question(question)[0]
    if not is_sign(many, sign):
        raise BadParameter(sign)
    if not is_lot(many, yes):
        raise BadParameter(yes)
    if not is_lot(many, no):
        raise BadParameter(no)
    return is_parting(sign, yes, no)


def first_unparted(question):
    """The first pair (YES row, NO row) that no sign of the question parts, or None."""
    _, signs, yes, no = need_question(question)
    unsaid = [(row, not_so_of(signs, row)) for row in no]
    for yes_row in yes:
        said_of = so_of(signs, yes_row)
        for no_row, lacking in unsaid:
            if (said_of & lacking) == 0:
                return (yes_row, no_row)
    return None


def so_of(signs, row):
    """Which signs are so of a row: a mask by their places."""
    return sum([1 << place for place, sign in enumerate(signs) if is_so(sign, row)])


def not_so_of(signs, row):
    """Which signs are not so of a row: a mask by their places."""
    return sum([1 << place for place, sign in enumerate(signs) if not is_so(sign, row)])


def can_be(question):
    """Whether each pair of the question is parted by a sign of it."""
    return first_unparted(question) is None


def need_parted(question):
    """A checked question in which each pair is parted by a sign."""
    pair = first_unparted(question)
    if pair is not None:
        raise NoTalk(pair)
    return question


def need_few_rows(question, most):
    """A checked question with at most so many rows together."""
    if len(question[2]) + len(question[3]) > most:
        raise TooGreat(most)
    return question


def turned_sign(sign):
    """The sign of the same bit that is so of just the other rows."""
    return (sign[0], 1 - sign[1])


def turned(question):
    """The question with its lots exchanged and its signs turned."""
    many, signs, yes, no = need_question(question)
    return (many, tuple(sorted([turned_sign(sign) for sign in signs])), no, yes)


def rising_signs(many):
    """All signs (I, 1)."""
    need_many(many)
    return tuple([(place, 1) for place in range(many)])


def all_signs(many):
    """All signs."""
    need_many(many)
    return tuple([(place, bit) for place in range(many) for bit in range(2)])


def question_of(many, signs, values):
    """The question of a table: YES its rows of 1, NO its rows of 0."""
    need_many(many)
    need_signs(many, signs)
    need_values(many, values)
    if 0 not in values or 1 not in values:
        raise BadParameter(values)
    return (many, signs, rows_with(values, 1), rows_with(values, 0))


def rows_with(values, bit):
    """The rows for which a table has this value."""
    return tuple([row for row, value in enumerate(values) if value == bit])


def lesser(question, yes, no):
    """The question with lesser lots."""
    many, signs, all_yes, all_no = need_question(question)
    need_lot_within(many, yes, all_yes)
    need_lot_within(many, no, all_no)
    return (many, signs, yes, no)


def need_lot_within(many, lot, rows):
    """A lot of at least one row, all of them among these."""
    if not is_full_lot(many, lot) or len(set(lot) - set(rows)) > 0:
        raise BadParameter(lot)
    return lot
