"""Weights of pairs: a bound for the number of leaves."""

from saidbetween.errors import BadParameter
from saidbetween.kinds import is_integer, is_tuple
from saidbetween.questions import is_so, MOST_ROWS, need_few_rows, need_parted, need_question

MOST_WEIGHT = 10 ** 6


def need_weights(question, weights):
    """Weights of all pairs of a checked question."""
    _, _, yes, no = question
    if not is_tuple(weights, len(yes)) or not all([is_weights(row, len(no)) for row in weights]):
        raise BadParameter(weights)
    return weights


def is_weights(thing, count):
    """Whether a thing is a tuple of so many weights."""
    return is_tuple(thing, count) and all([
        is_integer(weight, -MOST_WEIGHT, MOST_WEIGHT) for weight in thing
    ])


def heaviest(question, weights):
    """The greatest weight of lots that some sign parts, 0 if none is above 0."""
    need_question(question)
    need_weights(question, weights)
    need_few_rows(question, MOST_ROWS)
    return heaviest_of_signs(question, weights)


def heaviest_of_signs(question, weights):
    """The greatest weight of lots that some sign parts, of a checked question with few rows."""
    _, signs, yes, no = question
    return max([0] + [
        heaviest_lots([
            [weight for weight, other in zip(line, no) if not is_so(sign, other)]
            for line, row in zip(weights, yes) if is_so(sign, row)
        ])
        for sign in signs
    ])


def heaviest_lots(lines):
    """The greatest sum of weights of some of the lines and some of the columns, perhaps none."""
    if len(lines) == 0 or len(lines[0]) == 0:
        return 0
    # The fewer ones of lines and columns are gone through lot by lot, the others one by one.
    if len(lines) > len(lines[0]):
        lines = list(zip(*lines))
    sums = [[0] * len(lines[0])]
    for line in lines:
        sums = sums + [[old + weight for old, weight in zip(one, line)] for one in sums]
    return max([sum([weight for weight in one if weight > 0]) for one in sums])


def weight_bound(question, weights):
    """The least integer that, times the heaviest, is at least the sum of all weights."""
    need_question(question)
    need_weights(question, weights)
    need_few_rows(question, MOST_ROWS)
    need_parted(question)
    whole = sum([sum(line) for line in weights])
    if whole <= 0:
        return 0
    # Some pair weighs something, and a sign parts it: the heaviest is above 0.
    most = heaviest_of_signs(question, weights)
    return (whole + most - 1) // most
