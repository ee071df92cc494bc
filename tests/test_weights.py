"""[39]: weights of pairs, and the bound that they give for the number of leaves."""

import itertools
import unittest

from saidbetween.errors import BadParameter, NoTalk, TooGreat
from saidbetween.sizes import least_leaves
from saidbetween.weights import heaviest, weight_bound
from tests.brute import (
    can_questions, few_questions, first_pair_unparted, LONE, LONE_PAIR, lots, parts_pair, rectangles,
    THIRTEEN, TWELVE,
)
from tests.helpers import (
    all_signs_of, Case, Dice, EXAMPLE, QUESTION_REFUSALS, STRANGE, Touchy,
)

ONES = ((1, 1), (1, 1))
MOST = 10 ** 6

WRONG_WEIGHTS = [
    None, 1, "", (), [], ((1, 1),), ((1, 1),) * 3, [(1, 1), (1, 1)], ([1, 1], (1, 1)),
    ((1, 1), [1, 1]), ((1, 1), (1,)), ((1, 1), (1, 1, 1)), ((1, 1), ()), ((1, True), (1, 1)),
    ((1, 1), (1, False)), ((1, 1.0), (1, 1)), ((1, 1), (1, None)), ((1, "1"), (1, 1)),
    ((1, 1), (1, MOST + 1)), ((-MOST - 1, 1), (1, 1)), ((1, 1), (10 ** 40, 1)), (1, 1), (1, 1, 1, 1),
    ((1, Touchy()), (1, 1)), (Touchy(), (1, 1)), ((1, 1), None), (ONES,), {0: 1}, range(2),
]
WEIGHTS_REFUSALS = [(weights, BadParameter, {"value": weights}) for weights in WRONG_WEIGHTS]


def thrown_weights(dice, question, low, high):
    return tuple(tuple(low + dice.below(high - low + 1) for _ in question[3]) for _ in question[2])


def weight_of(question, weights, yes, no):
    return sum(weights[question[2].index(row)][question[3].index(other)]
               for row in yes for other in no)


def heaviest_of_all(question, weights):
    """All lots of both sides gone through."""
    return max([0] + [weight_of(question, weights, yes, no) for yes, no in rectangles(question)
                      if any(parts_pair(sign, yes, no) for sign in question[1])])


class WeightsTest(Case):

    def test_by_all_lots(self):
        dice = Dice(121)
        for question in few_questions(dice, 60, 7):
            for low, high in ((-3, 3), (0, 5), (-9, 2), (-5, -1), (-MOST, MOST)):
                weights = thrown_weights(dice, question, low, high)
                wanted = heaviest_of_all(question, weights)
                self.assertEqual(heaviest(question, weights), wanted)
                whole = weight_of(question, weights, *question[2:])
                pair = first_pair_unparted(question)
                if pair is not None:
                    self.refused(NoTalk, {"pair": pair}, weight_bound, question, weights)
                else:
                    bound = 0 if whole <= 0 else -(-whole // wanted)
                    self.assertEqual(weight_bound(question, weights), bound)

    def test_example(self):
        self.assertEqual(heaviest(EXAMPLE, ONES), 1)
        self.assertEqual(weight_bound(EXAMPLE, ONES), 4)

    def test_nothing_above_nought(self):
        for weights in (((0, 0), (0, 0)), ((-1, 0), (0, -1)), ((-1, -1), (-MOST, -5))):
            self.assertEqual(heaviest(EXAMPLE, weights), 0)
            self.assertEqual(weight_bound(EXAMPLE, weights), 0)
        self.assertEqual(heaviest((2, (), (1, 2), (0, 3)), ONES), 0)

    def test_sums_above_at_and_below_nought(self):
        for weights, most, bound in (
            (((2, -1), (-1, 0)), 2, 0), (((2, -1), (-1, 1)), 2, 1), (((2, -1), (-1, -1)), 2, 0),
            (((2, 0), (0, 3)), 3, 2), (((3, 0), (0, 3)), 3, 2), (((1, 1), (1, -2)), 1, 1),
            (((1, 2), (3, 4)), 4, 3), (((4, 4), (4, 4)), 4, 4), (((4, 4), (4, 1)), 4, 4),
            (((MOST, MOST), (MOST, MOST)), MOST, 4), (((MOST, -MOST), (1, 0)), MOST, 1),
        ):
            self.assertEqual(heaviest(EXAMPLE, weights), most)
            self.assertEqual(weight_bound(EXAMPLE, weights), bound)

    def test_lots_with_weights_below_nought_in_them(self):
        # Rows 1 and 3, and 0 and 2, are parted by one sign: all four pairs, or some.
        question = (2, ((0, 1),), (1, 3), (0, 2))
        for weights, most in ((((5, -1), (-1, 5)), 8), (((5, -6), (-6, 5)), 5),
                              (((5, -4), (2, 1)), 7), (((1, 2), (3, 4)), 10), (((-1, 9), (-1, 9)), 18)):
            self.assertEqual(heaviest(question, weights), most)
        # A sign that is so of all rows of both lots, or of none, parts nothing.
        other = (2, ((0, 0), (0, 1), (1, 1)), (1, 3), (0,))
        self.assertEqual(heaviest(other, ((1,), (2,))), 3)
        self.assertEqual(heaviest((3, ((2, 0), (2, 1)), (1, 3), (0, 2)), ONES), 0)

    def test_twelve_rows(self):
        dice = Dice(122)
        one = (4, all_signs_of(4), (0,), tuple(range(1, 12)))
        other = (4, all_signs_of(4), tuple(range(1, 12)), (0,))
        for question in (one, other):
            weights = thrown_weights(dice, question, -5, 5)
            self.assertEqual(heaviest(question, weights), heaviest_of_all(question, weights))
        weights = thrown_weights(dice, TWELVE, -5, 9)
        wanted = max(weight_of(TWELVE, weights, yes, no)
                     for sign in TWELVE[1]
                     for yes in lots([row for row in TWELVE[2] if parts_pair(sign, (row,), ())])
                     for no in lots([row for row in TWELVE[3] if parts_pair(sign, (), (row,))]))
        self.assertEqual(heaviest(TWELVE, weights), wanted)
        self.assertEqual(weight_bound(TWELVE, ((1,) * 6,) * 6), 4)

    def test_at_most_the_leaves(self):
        dice = Dice(123)
        for question in can_questions(dice, 30, 8) + [TWELVE]:
            leaves = least_leaves(question)[0]
            for low, high in ((-3, 3), (0, 5), (1, 1), (-1, 4)):
                self.assertLessEqual(
                    weight_bound(question, thrown_weights(dice, question, low, high)), leaves)

    def test_refused_in_order(self):
        for function in (heaviest, weight_bound):
            self.check_calls(function, ("question", "weights"), (EXAMPLE, ONES),
                             [QUESTION_REFUSALS, WEIGHTS_REFUSALS])
            for value in STRANGE:
                self.refused(BadParameter, {"value": value}, function, EXAMPLE, value)
                wrong = ((1, value), (1, 1))
                if type(value) is not int or value != -1:
                    self.refused(BadParameter, {"value": wrong}, function, EXAMPLE, wrong)
            for question in (THIRTEEN, (4, ()) + THIRTEEN[2:]):
                good = ((1,) * 7,) * 6
                self.refused(TooGreat, {"most": 12}, function, question, good)
                for wrong in (ONES, None, ((1,) * 6,) * 7, ((MOST + 1,) * 7,) * 6):
                    self.refused(BadParameter, {"value": wrong}, function, question, wrong)
        self.refused(NoTalk, {"pair": LONE_PAIR}, weight_bound, LONE, ONES)
        self.refused(NoTalk, {"pair": LONE_PAIR}, weight_bound, LONE, ((0, 0), (0, -1)))
        self.refused(BadParameter, {"value": None}, weight_bound, LONE, None)
        self.assertEqual(heaviest(LONE, ONES), 1)

    def test_weights_at_their_bounds(self):
        for weights in itertools.product((MOST, -MOST), repeat=4):
            rows = (weights[:2], weights[2:])
            self.assertEqual(heaviest(EXAMPLE, rows), max(0, *weights))


if __name__ == "__main__":
    unittest.main()
