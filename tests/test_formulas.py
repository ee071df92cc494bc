"""[4], [13], [14]: formulas checked, and what they say."""

import itertools
import unittest

from saidbetween.errors import BadFormula, BadParameter, TooGreat
from saidbetween.formulas import (
    depth_of, first_wrong, layers_of, leaves_of, need_formula, negated, tells, value_of,
)
from saidbetween.questions import turned
from tests.helpers import (
    all_signs_of, Case, chain, Dice, EXAMPLE, EXAMPLE_FORMULA, formula_is_so, full, put,
    QUESTION_REFUSALS, small_questions, STRANGE, thing_at, things, thrown_formula,
    thrown_question, Touchy,
)

SIGNS = EXAMPLE[1]
SIGN = (0, 1)
OTHER = (1, 0)
FEW = (2, ((0, 1), (1, 0)), (1, 2), (0, 3))

WRONG_FORMULAS = [
    (None, ()), ((0, 2), ()), ((2, 0), ()), (("or", SIGN), ()), (["or", SIGN, SIGN], ()),
    (("or", SIGN, None), (2,)), (("and", ("or", SIGN, Touchy()), 0), (1, 2)),
]
FORMULA_REFUSALS = [(value, BadFormula, {"place": path}) for value, path in WRONG_FORMULAS]


def long_one(depth, side, inmost, other=SIGN, words=("or",)):
    """A formula of this depth, all of whose words lie in one part each."""
    return chain(depth, [(word,) for word in words], side, inmost, other)


def wide_one(leaves):
    """A formula with so many leaves, as shallow as can be."""
    return full(leaves, ("or",), SIGN)


class NeedFormulaTest(Case):

    def test_good_ones_are_returned_themselves(self):
        dice = Dice(1)
        for leaves in range(1, 201):
            formula = thrown_formula(dice, SIGNS, leaves)
            try:
                self.assertIs(need_formula(EXAMPLE, formula), formula)
            except TooGreat as error:
                self.assertEqual(error.most, 60)
                self.assertGreater(leaves, 60)

    def test_signs_of_the_question_alone(self):
        for sign in all_signs_of(3):
            if sign in FEW[1]:
                self.assertIs(need_formula(FEW, sign), sign)
            else:
                self.refused(BadFormula, {"place": ()}, need_formula, FEW, sign)
                self.refused(BadFormula, {"place": (2, 1)}, need_formula, FEW,
                             ("and", SIGN, ("or", sign, sign)))
        self.refused(BadFormula, {"place": ()}, need_formula, (2, (), (1,), (0,)), SIGN)
        self.refused(BadFormula, {"place": (1,)}, need_formula, (2, (), (1,), (0,)),
                     ("or", SIGN, SIGN))

    def test_things_of_any_kind(self):
        for thing in STRANGE:
            self.refused(BadFormula, {"place": ()}, need_formula, FEW, thing)
            self.refused(BadFormula, {"place": (1,)}, need_formula, FEW, ("or", thing, SIGN))
            self.refused(BadFormula, {"place": (2,)}, need_formula, FEW, ("and", SIGN, thing))
            self.refused(BadFormula, {"place": (2, 1)}, need_formula, FEW,
                         ("and", SIGN, ("or", thing, None)))

    def test_talks_and_trees_are_no_formulas(self):
        for thing in (("yes", (), SIGN, SIGN), ("no", (1,), SIGN, SIGN), ("ask", 0, 1, 0), 0, 1):
            self.refused(BadFormula, {"place": ()}, need_formula, EXAMPLE, thing)

    def test_the_first_wrong_thing_of_the_walk_is_told(self):
        formula = ("or", ("and", ("or", SIGN, OTHER), SIGN), ("and", SIGN, ("or", OTHER, SIGN)))
        paths = things(formula)
        self.assertEqual(len(paths), 11)
        for at, path in enumerate(paths):
            one = put(formula, path, None)
            self.refused(BadFormula, {"place": path}, need_formula, EXAMPLE, one)
            for later in paths[at + 1:]:
                if later[:len(path)] != path:
                    two = put(put(formula, later, (9, 9)), path, ["or", SIGN, SIGN])
                    self.refused(BadFormula, {"place": path}, need_formula, EXAMPLE, two)

    def test_399_things_and_the_401st(self):
        self.assertEqual(len(things(wide_one(200))), 399)
        self.assertIsNotNone(need_formula(EXAMPLE, wide_one(200)))
        self.refused(TooGreat, {"most": 400}, need_formula, EXAMPLE, wide_one(201))
        self.refused(TooGreat, {"most": 400}, need_formula, EXAMPLE, wide_one(500))

    def test_the_400th_thing_is_looked_at_and_the_401st_is_not(self):
        formula = wide_one(201)
        paths = things(formula)
        self.assertEqual(len(paths), 401)
        for thing in [None, SIGN, (9, 9), ("or", None, None), Touchy(), ["or"]]:
            self.refused(TooGreat, {"most": 400}, need_formula, EXAMPLE,
                         put(formula, paths[400], thing))
        self.refused(BadFormula, {"place": paths[399]}, need_formula, EXAMPLE,
                     put(formula, paths[399], None))
        self.refused(BadFormula, {"place": paths[0]}, need_formula, EXAMPLE,
                     put(put(formula, paths[399], None), paths[0], None))
        for place in (1, 200, 300, 398):
            if len(thing_at(formula, paths[place])) == 2:
                self.refused(BadFormula, {"place": paths[place]}, need_formula, EXAMPLE,
                             put(formula, paths[place], 0))

    def test_the_same_part_many_times(self):
        formula = SIGN
        for _ in range(40):
            formula = ("or", formula, formula)
        self.refused(TooGreat, {"most": 400}, need_formula, EXAMPLE, formula)

    def test_depth_60_and_61(self):
        for side in (1, 2):
            for words in (("or",), ("and",), ("and", "or")):
                good = long_one(60, side, SIGN, words=words)
                self.assertIs(need_formula(EXAMPLE, good), good)
                self.assertEqual(depth_of(EXAMPLE, good), 60)
                self.refused(TooGreat, {"most": 60}, need_formula, EXAMPLE,
                             long_one(61, side, SIGN, words=words))
                for inmost in (("or", None, None), ("and", SIGN, Touchy()), ("or", 1, [])):
                    self.refused(TooGreat, {"most": 60}, need_formula, EXAMPLE,
                                 long_one(60, side, inmost, words=words))

    def test_wrong_things_in_the_depth_60(self):
        for side in (1, 2):
            for inmost in (None, (9, 9), ("or", SIGN), ("xor", SIGN, SIGN), ["or", SIGN, SIGN],
                           ("yes", (), SIGN, SIGN)):
                self.refused(BadFormula, {"place": (side,) * 60}, need_formula, EXAMPLE,
                             long_one(60, side, inmost))

    def test_wrong_things_ahead_of_and_behind_what_is_too_deep(self):
        deep = long_one(61, 1, SIGN)
        self.refused(TooGreat, {"most": 60}, need_formula, EXAMPLE, long_one(60, 1, deep, other=None))
        self.refused(BadFormula, {"place": (1,)}, need_formula, EXAMPLE, ("or", None, deep))
        self.refused(TooGreat, {"most": 60}, need_formula, EXAMPLE, ("or", deep, None))
        self.refused(BadFormula, {"place": (1,)}, need_formula, EXAMPLE,
                     long_one(61, 2, SIGN, other=None))
        self.refused(TooGreat, {"most": 60}, need_formula, EXAMPLE, long_one(5000, 1, None, other=None))

    def test_too_many_ahead_of_too_deep_and_too_deep_ahead_of_too_many(self):
        many = wide_one(250)
        deep = long_one(61, 2, SIGN)
        self.refused(TooGreat, {"most": 400}, need_formula, EXAMPLE, ("or", many, deep))
        self.refused(TooGreat, {"most": 60}, need_formula, EXAMPLE, ("or", deep, many))

    def test_the_401st_thing_too_deep(self):
        # Where the first word with a path of 60 things is the 401st thing, this is told.
        deep = long_one(59, 2, ("or", SIGN, SIGN))
        for leaves, most in ((139, 60), (140, 60), (141, 400)):
            whole = ("or", wide_one(leaves), deep)
            self.assertEqual(things(whole).index((2,) * 60), 2 * leaves + 118)
            self.refused(TooGreat, {"most": most}, need_formula, EXAMPLE, whole)

    def test_refused_in_order(self):
        self.check_calls(need_formula, ("question", "formula"), (EXAMPLE, EXAMPLE_FORMULA),
                         [QUESTION_REFUSALS, FORMULA_REFUSALS])


class SayingTest(Case):

    def samples(self):
        dice = Dice(5)
        out = []
        for question in small_questions(2):
            if question[1] and dice.below(8) == 0:
                out.append((question, thrown_formula(dice, question[1], 1 + dice.below(6))))
        for many in (1, 3, 5, 8):
            for _ in range(6):
                question = thrown_question(dice, many, True)
                out.append((question, thrown_formula(dice, question[1], 1 + dice.below(12))))
        return out

    def test_by_the_words_over_all_rows(self):
        for question, formula in self.samples():
            many, _, yes, no = question
            wrong = [row for row in yes if not formula_is_so(formula, row)]
            wrong += [row for row in no if formula_is_so(formula, row)]
            for row in range(2 ** many):
                self.assertIs(value_of(question, formula, row), formula_is_so(formula, row))
            self.assertEqual(first_wrong(question, formula), wrong[0] if wrong else None)
            self.assertIs(tells(question, formula), not wrong)

    def test_yes_comes_ahead_of_no(self):
        question = (2, SIGNS, (2, 3), (0, 1))
        self.assertEqual(first_wrong(question, (0, 1)), 2)
        self.assertEqual(first_wrong(question, ("or", (0, 1), (1, 1))), 1)
        self.assertEqual(first_wrong(question, ("or", (0, 0), (0, 1))), 0)
        self.assertIsNone(first_wrong(question, (1, 1)))
        self.assertIs(tells(question, (1, 1)), True)
        self.assertIs(tells(question, (0, 1)), False)

    def test_row_0_can_be_wrong(self):
        question = (1, ((0, 1),), (0,), (1,))
        self.assertEqual(first_wrong(question, (0, 1)), 0)
        self.assertIs(tells(question, (0, 1)), False)

    def test_depth_and_leaves(self):
        def depth(formula):
            return 1 + max(map(depth, formula[1:])) if formula[0] in ("or", "and") else 0

        def leaves(formula):
            return sum(map(leaves, formula[1:])) if formula[0] in ("or", "and") else 1

        for question, formula in self.samples():
            self.assertEqual(depth_of(question, formula), depth(formula))
            self.assertEqual(leaves_of(question, formula), leaves(formula))
            self.assertLessEqual(leaves(formula), 2 ** depth(formula))
        self.assertEqual(leaves_of(EXAMPLE, wide_one(200)), 200)
        self.assertEqual(depth_of(EXAMPLE, wide_one(128)), 7)

    def test_layers(self):
        for formula, layers in (
            (SIGN, 0), (("or", SIGN, OTHER), 1), (("and", SIGN, OTHER), 1),
            (("or", ("or", SIGN, SIGN), ("or", SIGN, SIGN)), 1),
            (("or", ("and", SIGN, SIGN), SIGN), 2), (("or", SIGN, ("and", SIGN, SIGN)), 2),
            (("or", ("or", SIGN, ("or", SIGN, ("and", SIGN, SIGN))), SIGN), 2),
            (("and", ("or", SIGN, ("and", SIGN, SIGN)), ("and", SIGN, SIGN)), 3),
            (("and", ("and", SIGN, SIGN), ("or", SIGN, ("and", SIGN, SIGN))), 3),
            (("or", ("and", SIGN, SIGN), ("or", SIGN, SIGN)), 2),
            (("or", ("and", SIGN, ("or", SIGN, SIGN)), ("and", SIGN, SIGN)), 3),
        ):
            self.assertEqual(layers_of(EXAMPLE, formula), layers, formula)

    def test_layers_of_long_rows(self):
        for side in (1, 2):
            for word in ("or", "and"):
                self.assertEqual(layers_of(EXAMPLE, long_one(60, side, SIGN, words=(word,))), 1)
            self.assertEqual(layers_of(EXAMPLE, long_one(60, side, SIGN, words=("or", "and"))), 60)
            self.assertEqual(layers_of(EXAMPLE, long_one(60, side, SIGN, words=("or", "or", "and"))),
                             40)
        self.assertEqual(layers_of(EXAMPLE, wide_one(200)), 1)

    def test_example(self):
        self.assertIs(tells(EXAMPLE, EXAMPLE_FORMULA), True)
        self.assertEqual(depth_of(EXAMPLE, EXAMPLE_FORMULA), 2)
        self.assertEqual(leaves_of(EXAMPLE, EXAMPLE_FORMULA), 4)
        formula = ("or", ("and", (0, 1), (1, 0)), (1, 1))
        self.assertEqual(depth_of(EXAMPLE, formula), 2)
        self.assertEqual(leaves_of(EXAMPLE, formula), 3)
        self.assertEqual(layers_of(EXAMPLE, formula), 2)

    def test_negated(self):
        self.assertEqual(negated(EXAMPLE, (0, 1)), (0, 0))
        self.assertEqual(negated(EXAMPLE, ("or", ("and", (0, 1), (1, 0)), (1, 1))),
                         ("and", ("or", (0, 0), (1, 1)), (1, 0)))
        for question, formula in self.samples():
            other = turned(question)
            negation = negated(question, formula)
            self.assertIs(need_formula(other, negation), negation)
            for row in range(2 ** question[0]):
                self.assertIs(value_of(other, negation, row), not value_of(question, formula, row))
            self.assertIs(tells(other, negation), tells(question, formula))
            self.assertEqual(depth_of(other, negation), depth_of(question, formula))
            self.assertEqual(leaves_of(other, negation), leaves_of(question, formula))
            self.assertEqual(layers_of(other, negation), layers_of(question, formula))
            self.assertEqual(negated(other, negation), formula)

    def test_rising_signs_alone_never_fall(self):
        dice = Dice(6)
        for _ in range(40):
            question = (4, tuple((place, 1) for place in range(4)), (15,), (0,))
            formula = thrown_formula(dice, question[1], 1 + dice.below(8))
            for low, high in itertools.product(range(16), repeat=2):
                if low & high == low and value_of(question, formula, low):
                    self.assertTrue(value_of(question, formula, high))

    def test_great_formulas(self):
        question = (8, all_signs_of(8), tuple(range(1, 256, 2)), tuple(range(0, 256, 2)))
        formula = long_one(59, 1, (0, 1), other=("or", (0, 1), (0, 1)), words=("or", "and"))
        self.assertIs(tells(question, formula), True)
        self.assertIs(value_of(question, formula, 255), True)
        self.assertIs(value_of(question, formula, 0), False)

    def test_refused_in_order(self):
        wholes = [need_formula, first_wrong, tells, depth_of, leaves_of, layers_of, negated]
        for function in wholes:
            self.check_calls(function, ("question", "formula"), (EXAMPLE, EXAMPLE_FORMULA),
                             [QUESTION_REFUSALS, FORMULA_REFUSALS])
            self.refused(TooGreat, {"most": 400}, function, EXAMPLE, wide_one(201))
            self.refused(TooGreat, {"most": 60}, function, EXAMPLE, long_one(61, 1, SIGN))
        rows = [-1, 4, True, False, 1.0, "1", None, (1,), Touchy(), 10 ** 40]
        self.check_calls(
            value_of, ("question", "formula", "row"), (EXAMPLE, EXAMPLE_FORMULA, 3),
            [QUESTION_REFUSALS, FORMULA_REFUSALS,
             [(row, BadParameter, {"value": row}) for row in rows]],
        )
        self.refused(TooGreat, {"most": 400}, value_of, EXAMPLE, wide_one(201), -1)
        self.assertIs(value_of((3, SIGNS, (1,), (0,)), (0, 1), 7), True)
        self.refused(BadParameter, {"value": 8}, value_of, (3, SIGNS, (1,), (0,)), (0, 1), 8)


if __name__ == "__main__":
    unittest.main()
