"""[21] to [23]: formulas and talks turned into one another, and made lean."""

import itertools
import unittest

from saidbetween.errors import BadFormula, BadParameter, BadTalk, TooGreat
from saidbetween.formulas import (
    depth_of, first_wrong, leaves_of, need_formula, tells,
)
from saidbetween.questions import question_of
from saidbetween.talks import (
    bits_of, ends_of, first_failing, is_lean, is_talk, need_talk, pairs_at,
)
from saidbetween.turning import formula_of, lean_formula, lean_talk, talk_of
from tests.helpers import (
    all_signs_of, Case, chain, Dice, EXAMPLE, EXAMPLE_FORMULA, EXAMPLE_TALK, formula_is_so, full,
    is_branch, QUESTION_REFUSALS, thrown_formula,
)
from tests.test_talks import samples

SIGNS = EXAMPLE[1]
UNTOLD_FORMULAS = [(0, 1), ("or", EXAMPLE_FORMULA, (0, 1)), ("and", EXAMPLE_FORMULA, (0, 1))]
UNTOLD_TALKS = [(0, 1), ("yes", (1,), EXAMPLE_TALK, (0, 0)), ("no", (0,), EXAMPLE_TALK, (1, 1))]
FORMULA_REFUSALS = (
    [(formula, BadParameter, {"value": formula}) for formula in UNTOLD_FORMULAS]
    + [(None, BadFormula, {"place": ()}), ((0, 2), BadFormula, {"place": ()}),
       (("or", (0, 1), 0), BadFormula, {"place": (2,)}), (EXAMPLE_TALK, BadFormula, {"place": ()})]
)
TALK_REFUSALS = (
    [(talk, BadParameter, {"value": talk}) for talk in UNTOLD_TALKS]
    + [(None, BadTalk, {"place": ()}), ((0, 2), BadTalk, {"place": ()}),
       (("yes", 0, (0, 1), 0), BadTalk, {"place": (1,)}), (EXAMPLE_FORMULA, BadTalk, {"place": ()})]
)


def told_formulas():
    """Questions with formulas that tell them, many with parts that are of no use."""
    dice = Dice(21)
    out = [(EXAMPLE, EXAMPLE_FORMULA)]
    for many in (1, 2, 3, 4):
        for _ in range(25):
            formula = thrown_formula(dice, all_signs_of(many), 1 + dice.below(14))
            values = tuple(int(formula_is_so(formula, row)) for row in range(2 ** many))
            if len(set(values)) == 2:
                question = question_of(many, all_signs_of(many), values)
                out.append((question, formula))
                yes, no = dice.some(question[2], 1), dice.some(question[3], 1)
                out.append((question[:2] + (yes, no), formula))
    return out


def told_talks():
    """Questions with talks that tell them, many with parts to which nobody comes."""
    return [(question, talk) for question, talk in samples() if is_talk(question, talk)]


def signs_of(whole):
    if not is_branch(whole):
        return [whole]
    return signs_of(whole[-2]) + signs_of(whole[-1])


def shape_of(whole):
    if not is_branch(whole):
        return whole
    word = {"yes": "or", "no": "and"}.get(whole[0], whole[0])
    return (word, shape_of(whole[-2]), shape_of(whole[-1]))


def wanted_talk(formula, yes, no):
    """By the words of [21]."""
    if not is_branch(formula):
        return formula
    word, first, second = formula
    if word == "or":
        lot = tuple(row for row in yes if formula_is_so(first, row))
        rest = tuple(row for row in yes if row not in lot)
        return ("yes", lot, wanted_talk(first, lot, no), wanted_talk(second, rest, no))
    lot = tuple(row for row in no if not formula_is_so(first, row))
    rest = tuple(row for row in no if row not in lot)
    return ("no", lot, wanted_talk(first, yes, lot), wanted_talk(second, yes, rest))


def wanted_formula(talk, yes, no):
    """By the words of [22]."""
    if not is_branch(talk):
        return talk
    hand, lot, within, without = talk
    rows = yes if hand == "yes" else no
    inside = tuple(row for row in rows if row in lot)
    outside = tuple(row for row in rows if row not in lot)
    if hand == "yes":
        first, second = (within, inside, no), (without, outside, no)
    else:
        first, second = (within, yes, inside), (without, yes, outside)
    if not inside:
        return wanted_formula(*second)
    if not outside:
        return wanted_formula(*first)
    return ({"yes": "or", "no": "and"}[hand], wanted_formula(*first), wanted_formula(*second))


class TalkOfTest(Case):

    def test_by_the_words_and_facts(self):
        for question, formula in told_formulas():
            talk = talk_of(question, formula)
            self.assertEqual(talk, wanted_talk(formula, question[2], question[3]))
            self.assertIs(need_talk(question, talk), talk)
            self.assertIsNone(first_failing(question, talk))
            self.assertEqual(shape_of(talk), formula)
            self.assertEqual(bits_of(question, talk), depth_of(question, formula))
            self.assertEqual(ends_of(question, talk), leaves_of(question, formula))
            self.assertEqual([sign for _, _, sign in pairs_at(question, talk)], signs_of(formula))

    def test_example(self):
        self.assertEqual(
            talk_of(EXAMPLE, EXAMPLE_FORMULA),
            ("yes", (1,), ("no", (0,), (0, 1), (1, 0)), ("no", (3,), (0, 0), (1, 1))))
        self.assertEqual(talk_of((1, ((0, 1),), (1,), (0,)), (0, 1)), (0, 1))

    def test_lots_may_be_empty(self):
        question = (2, SIGNS, (1,), (0,))
        self.assertEqual(talk_of(question, ("or", (1, 1), (0, 1))), ("yes", (), (1, 1), (0, 1)))
        self.assertEqual(talk_of(question, ("and", (1, 0), (0, 1))), ("no", (), (1, 0), (0, 1)))
        self.assertEqual(talk_of(question, ("or", ("and", (1, 1), (0, 0)), (0, 1))),
                         ("yes", (), ("no", (0,), (1, 1), (0, 0)), (0, 1)))

    def test_what_just_keeps_to_the_bounds(self):
        question = (1, ((0, 0), (0, 1)), (1,), (0,))
        for formula in (full(200, ("or",), (0, 1)), full(200, ("and",), (0, 1)),
                        chain(60, [("or",), ("and",)], 1, (0, 1), (0, 1)),
                        chain(60, [("and",)], 2, (0, 1), (0, 1))):
            talk = talk_of(question, formula)
            self.assertEqual(shape_of(talk), formula)
            self.assertIs(need_talk(question, talk), talk)
            self.assertEqual(formula_of(question, talk), (0, 1))
        self.refused(TooGreat, {"most": 400}, talk_of, question, full(201, ("or",), (0, 1)))
        self.refused(TooGreat, {"most": 60}, talk_of, question,
                     chain(61, [("or",)], 1, (0, 1), (0, 1)))

    def test_refused_in_order(self):
        for function in (talk_of, lean_formula):
            self.check_calls(function, ("question", "formula"), (EXAMPLE, EXAMPLE_FORMULA),
                             [QUESTION_REFUSALS, FORMULA_REFUSALS])

    def test_all_that_does_not_tell_is_refused(self):
        dice = Dice(22)
        for _ in range(60):
            formula = thrown_formula(dice, SIGNS, 1 + dice.below(6))
            if first_wrong(EXAMPLE, formula) is not None:
                for function in (talk_of, lean_formula):
                    self.refused(BadParameter, {"value": formula}, function, EXAMPLE, formula)


class FormulaOfTest(Case):

    def test_by_the_words_and_facts(self):
        shorter = 0
        for question, talk in told_talks():
            formula = formula_of(question, talk)
            self.assertEqual(formula, wanted_formula(talk, question[2], question[3]))
            self.assertIs(need_formula(question, formula), formula)
            self.assertIs(tells(question, formula), True)
            self.assertLessEqual(depth_of(question, formula), bits_of(question, talk))
            self.assertLessEqual(leaves_of(question, formula), ends_of(question, talk))
            if is_lean(question, talk):
                self.assertEqual(shape_of(talk), formula)
            else:
                self.assertLess(leaves_of(question, formula), ends_of(question, talk))
                shorter += 1
        self.assertGreater(shorter, 5)

    def test_one_hand_left_alone(self):
        question = (2, SIGNS, (1,), (0, 2))
        good = ("no", (0,), (0, 1), (0, 1))
        for talk, formula in (
            (("yes", (1,), (0, 1), (1, 1)), (0, 1)), (("yes", (), (1, 1), (0, 1)), (0, 1)),
            (("yes", (0, 2, 3), (1, 1), good), ("and", (0, 1), (0, 1))),
            (("no", (0, 2), (0, 1), (1, 1)), (0, 1)), (("no", (1, 3), (1, 1), (0, 1)), (0, 1)),
            (("no", (2,), (1, 0), (0, 1)), ("and", (1, 0), (0, 1))),
        ):
            self.assertEqual(formula_of(question, talk), formula)
        other = (2, SIGNS, (0, 1), (2,))
        self.assertEqual(formula_of(other, ("yes", (1,), (0, 1), (1, 0))), ("or", (0, 1), (1, 0)))

    def test_refused_in_order(self):
        for function in (formula_of, lean_talk):
            self.check_calls(function, ("question", "talk"), (EXAMPLE, EXAMPLE_TALK),
                             [QUESTION_REFUSALS, TALK_REFUSALS])
            self.refused(TooGreat, {"most": 400}, function, EXAMPLE, full(201, ("no", ()), (0, 1)))
            self.refused(TooGreat, {"most": 60}, function, EXAMPLE,
                         chain(61, [("no", ())], 2, (0, 1), (0, 1)))

    def test_all_that_does_not_tell_is_refused(self):
        for question, talk in samples():
            if not is_talk(question, talk):
                for function in (formula_of, lean_talk):
                    self.refused(BadParameter, {"value": talk}, function, question, talk)


class LeanTest(Case):

    def test_lean_talk(self):
        for question, talk in told_talks():
            lean = lean_talk(question, talk)
            self.assertIs(is_lean(question, lean), True)
            self.assertIs(is_talk(question, lean), True)
            self.assertEqual(lean_talk(question, lean), lean)
            self.assertEqual(formula_of(question, lean), formula_of(question, talk))
            self.assertEqual(shape_of(lean), formula_of(question, talk))
            self.check_lots(lean, question[2], question[3])
            kept = [end for end in pairs_at(question, talk) if end[0] and end[1]]
            self.assertEqual(list(pairs_at(question, lean)), kept)

    def check_lots(self, talk, yes, no):
        """Each lot has just rows that come there."""
        if is_branch(talk):
            rows = yes if talk[0] == "yes" else no
            self.assertLess(set(talk[1]), set(rows))
            rest = tuple(row for row in rows if row not in talk[1])
            if talk[0] == "yes":
                self.check_lots(talk[2], talk[1], no)
                self.check_lots(talk[3], rest, no)
            else:
                self.check_lots(talk[2], yes, talk[1])
                self.check_lots(talk[3], yes, rest)

    def test_lots_of_lean_talks(self):
        talk = ("yes", (0, 1, 3), ("no", (0, 1, 2), (0, 1), (1, 0)), ("no", (1, 3), (0, 0), (1, 1)))
        self.assertEqual(
            lean_talk(EXAMPLE, talk),
            ("yes", (1,), ("no", (0,), (0, 1), (1, 0)), ("no", (3,), (0, 0), (1, 1))))
        wider = ("no", (1, 2), (0, 1), ("yes", (1, 2), talk, (0, 0)))
        self.assertEqual(lean_talk(EXAMPLE, wider), lean_talk(EXAMPLE, talk))

    def test_lean_formula(self):
        for question, formula in told_formulas():
            lean = lean_formula(question, formula)
            self.assertIs(tells(question, lean), True)
            talk = talk_of(question, lean)
            self.assertIs(is_lean(question, talk), True)
            self.assertEqual(formula_of(question, talk), lean)
            self.assertEqual(lean_formula(question, lean), lean)
            step = formula
            while True:
                following = formula_of(question, talk_of(question, step))
                if following == step:
                    break
                self.assertLess(leaves_of(question, following), leaves_of(question, step))
                step = following
            self.assertEqual(lean, step)

    def test_once_is_not_enough(self):
        # Some formula gets shorter again when it is turned back a second time.
        again = 0
        for question, formula in self.tight_ones():
            once = formula_of(question, talk_of(question, formula))
            twice = formula_of(question, talk_of(question, once))
            if twice != once:
                again += 1
                self.assertLess(leaves_of(question, lean_formula(question, formula)),
                                leaves_of(question, once))
        self.assertGreater(again, 0)

    def tight_ones(self):
        dice = Dice(23)
        for _ in range(1500):
            formula = thrown_formula(dice, SIGNS, 4 + dice.below(4))
            rows = [[row for row in range(4) if formula_is_so(formula, row) == so]
                    for so in (True, False)]
            if rows[0] and rows[1]:
                yield (2, SIGNS, tuple(rows[0]), tuple(rows[1])), formula

    def test_all_formulas_with_few_leaves(self):
        ends = list(SIGNS)
        twos = [(word, a, b) for word in ("or", "and") for a in ends for b in ends]
        threes = [(word, a, b) for word in ("or", "and") for a in twos for b in ends]
        for formula in itertools.islice(threes, 0, None, 3):
            if tells((2, SIGNS, (3,), (0,)), formula):
                question = (2, SIGNS, (3,), (0,))
                self.assertEqual(leaves_of(question, lean_formula(question, formula)), 1)


if __name__ == "__main__":
    unittest.main()
