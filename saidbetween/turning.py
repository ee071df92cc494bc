"""Formulas and talks turned into one another, and made lean."""

from saidbetween.errors import BadParameter
from saidbetween.formulas import first_wrong, formula_rows, sign_rows
from saidbetween.talks import first_failing
from saidbetween.walks import is_branch, parts_with_rows

JOINT_OF_HAND = {"yes": "or", "no": "and"}


def talk_of(question, formula):
    """The talk that a formula is."""
    if first_wrong(question, formula) is not None:
        raise BadParameter(formula)
    signs, yes, no = question[1:]
    return talk_for(sign_rows(signs, yes + no), formula, yes, no)


def talk_for(masks, formula, yes, no):
    """The talk that a formula is for the rows that come there."""
    if not is_branch(formula):
        return formula
    word, first, second = formula
    so = formula_rows(masks, first)
    if word == "or":
        lot = tuple([row for row in yes if (so >> row) & 1])
        rest = tuple([row for row in yes if not (so >> row) & 1])
        return ("yes", lot, talk_for(masks, first, lot, no), talk_for(masks, second, rest, no))
    lot = tuple([row for row in no if not (so >> row) & 1])
    rest = tuple([row for row in no if (so >> row) & 1])
    return ("no", lot, talk_for(masks, first, yes, lot), talk_for(masks, second, yes, rest))


def formula_of(question, talk):
    """The formula that a talk is, without what nobody comes to."""
    return joined(lean_talk(question, talk))


def joined(talk):
    """The formula of the shape of a lean talk."""
    if not is_branch(talk):
        return talk
    return (JOINT_OF_HAND[talk[0]], joined(talk[2]), joined(talk[3]))


def lean_talk(question, talk):
    """The talk without what nobody comes to."""
    if first_failing(question, talk) is not None:
        raise BadParameter(talk)
    return lean_for(talk, question[2], question[3])


def lean_for(talk, yes, no):
    """A talk without what none of these rows comes to."""
    if not is_branch(talk):
        return talk
    hand = talk[0]
    kept = [
        (lean_for(part, yes_there, no_there), yes_there if hand == "yes" else no_there)
        for part, yes_there, no_there in parts_with_rows(talk, yes, no)
        if len(yes_there if hand == "yes" else no_there) > 0
    ]
    if len(kept) == 1:
        return kept[0][0]
    return (hand, kept[0][1], kept[0][0], kept[1][0])


def lean_formula(question, formula):
    """The formula turned into a talk and back, again and again until it stays."""
    leaner = formula_of(question, talk_of(question, formula))
    while leaner != formula:
        formula = leaner
        leaner = formula_of(question, talk_of(question, formula))
    return formula
