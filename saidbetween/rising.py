"""Rising tables and questions: their kernels, led talks, formulas with the signs (I, 1) alone."""

from saidbetween.errors import BadParameter
from saidbetween.kinds import need_many, need_values
from saidbetween.questions import need_question, rising_signs, rows_with
from saidbetween.talks import need_talk
from saidbetween.walks import is_branch


def is_below(row, other):
    """Whether a row lies below another one."""
    return (row & other) == row


def is_rising(many, values):
    """Whether the values never fall where a bit becomes 1."""
    need_many(many)
    need_values(many, values)
    return never_falls(many, values)


def never_falls(many, values):
    """Whether the values of a checked table never fall where a bit becomes 1."""
    return all([
        value <= values[row | (1 << place)]
        for row, value in enumerate(values)
        for place in range(many)
    ])


def need_rising(question):
    """A question whose signs are all (I, 1), and these alone."""
    if need_question(question)[1] != rising_signs(question[0]):
        raise BadParameter(question)
    return question


def lowest(rows):
    """The rows below which no other one of them lies."""
    return tuple([
        row for row in rows if not any([is_below(other, row) for other in rows if other != row])
    ])


def highest(rows):
    """The rows that lie below no other one of them."""
    return tuple([
        row for row in rows if not any([is_below(row, other) for other in rows if other != row])
    ])


def kernel_of(question):
    """The question with its lowest rows of YES and its highest rows of NO."""
    many, signs, yes, no = need_rising(question)
    return (many, signs, lowest(yes), highest(no))


def led_talk(question, talk):
    """The talk in which each row goes the way of the row of the kernel to which it is led."""
    _, _, yes, no = need_rising(question)
    need_talk(question, talk)
    _, _, yes_kernel, no_kernel = kernel_of(question)
    leaders = {}
    for row in yes:
        leaders[row] = [led for led in yes_kernel if is_below(led, row)][0]
    for row in no:
        leaders[row] = [led for led in no_kernel if is_below(row, led)][0]
    return talk_led({"yes": yes, "no": no}, leaders, talk)


def talk_led(rows, leaders, talk):
    """A checked talk with the lots of those rows whose leaders are in its lots."""
    if not is_branch(talk):
        return talk
    hand, lot, within, without = talk
    led = tuple([row for row in rows[hand] if leaders[row] in lot])
    return (hand, led, talk_led(rows, leaders, within), talk_led(rows, leaders, without))


def need_rising_values(many, values):
    """The values of a rising table that has 0 and 1."""
    need_many(many)
    need_values(many, values)
    if 0 not in values or 1 not in values or not never_falls(many, values):
        raise BadParameter(values)
    return values


def rising_formula(many, values):
    """An or of ands of signs, one for each lowest row with 1."""
    need_rising_values(many, values)
    rows = lowest(rows_with(values, 1))
    return put_right("or", [put_right("and", signs_at(many, row, 1)) for row in rows])


def falling_formula(many, values):
    """An and of ors of signs, one for each highest row with 0."""
    need_rising_values(many, values)
    rows = highest(rows_with(values, 0))
    return put_right("and", [put_right("or", signs_at(many, row, 0)) for row in rows])


def signs_at(many, row, bit):
    """The signs (I, 1) of the bits I of a row that are this."""
    return [(place, 1) for place in range(many) if (row >> place) & 1 == bit]


def put_right(word, parts):
    """Formulas put together by a word to the right; one alone stays."""
    whole = parts[-1]
    for part in parts[-2::-1]:
        whole = (word, part, whole)
    return whole
