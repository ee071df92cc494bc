"""Formulas: checked, and what they say."""

from saidbetween.errors import BadFormula
from saidbetween.kinds import is_sign_in, is_tuple, is_word, need_row
from saidbetween.questions import is_so, need_question, turned_sign
from saidbetween.walks import BRANCH, depth, END, ends, first_fault, is_branch, WRONG

MOST_THINGS = 400
JOINTS = ("or", "and")
OTHER_JOINT = {"or": "and", "and": "or"}


def need_formula(question, formula):
    """A formula of the question: what was handed in, if it is one."""
    signs = need_question(question)[1]
    path = first_fault(signs, formula, MOST_THINGS, kind_of_formula)
    if path is not None:
        raise BadFormula(path)
    return formula


def kind_of_formula(signs, thing):
    """What a thing is on the walk through a formula."""
    if is_tuple(thing, 3) and is_word(thing[0], JOINTS):
        return BRANCH
    if is_sign_in(signs, thing):
        return END
    return WRONG


def sign_rows(signs, rows):
    """For each sign the mask of those of the rows of which it is so."""
    return {sign: sum([1 << row for row in rows if is_so(sign, row)]) for sign in signs}


def formula_rows(masks, formula):
    """The mask of the rows of which a checked formula is so, by those of the signs."""
    if not is_branch(formula):
        return masks[formula]
    word, first, second = formula
    if word == "or":
        return formula_rows(masks, first) | formula_rows(masks, second)
    return formula_rows(masks, first) & formula_rows(masks, second)


def value_of(question, formula, row):
    """Whether a formula is so of a row."""
    need_formula(question, formula)
    need_row(question[0], row)
    return formula_rows(sign_rows(question[1], (row,)), formula) != 0


def first_wrong(question, formula):
    """The first row of YES of which a formula is not so, else of NO of which it is, else None."""
    need_formula(question, formula)
    signs, yes, no = question[1:]
    mask = formula_rows(sign_rows(signs, yes + no), formula)
    for row in yes:
        if not (mask >> row) & 1:
            return row
    for row in no:
        if (mask >> row) & 1:
            return row
    return None


def tells(question, formula):
    """Whether a formula tells the question."""
    return first_wrong(question, formula) is None


def depth_of(question, formula):
    """The depth of a formula."""
    return depth(need_formula(question, formula))


def leaves_of(question, formula):
    """The leaves of a formula."""
    return ends(need_formula(question, formula))


def layers_of(question, formula):
    """The layers of a formula."""
    return layers(need_formula(question, formula))


def layers(formula):
    """The layers of a checked formula."""
    if not is_branch(formula):
        return 0
    word, first, second = formula
    return max(layers_within(word, first), layers_within(word, second))


def layers_within(word, part):
    """The layers that a part gives to the whole, which has this word."""
    return layers(part) if part[0] == word else layers(part) + 1


def negated(question, formula):
    """The formula that is so of just the other rows, of the turned question."""
    return negation(need_formula(question, formula))


def negation(formula):
    """The negation of a checked formula."""
    if not is_branch(formula):
        return turned_sign(formula)
    word, first, second = formula
    return (OTHER_JOINT[word], negation(first), negation(second))
