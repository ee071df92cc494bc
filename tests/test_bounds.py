"""[38]: neighbours, and the bound that they give for the number of leaves."""

import fractions
import itertools
import unittest

from saidbetween.bounds import best_neighbours, neighbour_bound, neighbours
from saidbetween.errors import TooGreat
from saidbetween.questions import question_of
from saidbetween.sizes import least_leaves
from tests.brute import can_questions, few_questions, lots, parity, THIRTEEN, TWELVE
from tests.helpers import (
    all_signs_of, Case, Dice, EXAMPLE, QUESTION_REFUSALS, small_questions, thrown_question,
)


def unlike_bits(row, other):
    return sum(row // 2 ** bit % 2 != other // 2 ** bit % 2 for bit in range(8))


def pairs(yes, no):
    return tuple(pair for pair in itertools.product(yes, no) if unlike_bits(*pair) == 1)


def bound(yes, no):
    return fractions.Fraction(len(pairs(yes, no)) ** 2, len(yes) * len(no))


def told(fraction):
    return (fraction.numerator, fraction.denominator)


class NeighboursTest(Case):

    def test_by_the_words(self):
        dice = Dice(111)
        questions = small_questions(1) + small_questions(2)[::7]
        questions += [thrown_question(dice, many) for many in (2, 3, 4, 5, 8) for _ in range(8)]
        for question in questions:
            _, _, yes, no = question
            found = neighbours(question)
            self.assertEqual(found, pairs(yes, no))
            self.assertEqual(list(found), sorted(found))
            self.assertEqual(neighbour_bound(question), told(bound(yes, no)))

    def test_example(self):
        self.assertEqual(neighbours(EXAMPLE), ((1, 0), (1, 3), (2, 0), (2, 3)))
        self.assertEqual(neighbour_bound(EXAMPLE), (4, 1))
        self.assertEqual(best_neighbours(EXAMPLE), ((4, 1), (1, 2), (0, 3)))

    def test_none_at_all(self):
        self.assertEqual(neighbour_bound((2, (), (0,), (3,))), (0, 1))
        self.assertEqual(neighbours((2, (), (0,), (3,))), ())
        self.assertEqual(best_neighbours((3, (), (0, 1), (6,))), ((0, 1), (0,), (6,)))
        self.assertEqual(best_neighbours((4, (), (1, 2), (12, 15))), ((0, 1), (1,), (12,)))

    def test_in_least_terms(self):
        self.assertEqual(neighbour_bound((2, (), (0, 3), (1,))), (2, 1))
        self.assertEqual(neighbour_bound((3, (), (0, 7), (1, 2))), (1, 1))
        self.assertEqual(neighbour_bound((3, (), (0, 6, 7), (1, 3))), (2, 3))

    def test_many_rows(self):
        rows = range(256)
        values = tuple(bin(row).count("1") % 2 for row in rows)
        question = question_of(8, (), values)
        self.assertEqual(len(neighbours(question)), 128 * 8)
        self.assertEqual(neighbour_bound(question), (64, 1))
        self.assertEqual(neighbour_bound(THIRTEEN), told(bound(*THIRTEEN[2:])))

    def test_refused_in_order(self):
        for function in (neighbours, neighbour_bound, best_neighbours):
            self.check_calls(function, ("question",), (EXAMPLE,), [QUESTION_REFUSALS])
            self.check_calls(function, ("question",), ((2, (), (1,), (0, 3)),), [])
        for question in (THIRTEEN, (4, ()) + THIRTEEN[2:]):
            self.refused(TooGreat, {"most": 12}, best_neighbours, question)
        self.assertEqual(len(best_neighbours((4, ()) + TWELVE[2:])), 3)


class BestTest(Case):

    def check(self, question):
        _, _, yes, no = question
        found = best_neighbours(question)
        choices = [(bound(*both), both) for both in itertools.product(lots(yes), lots(no))]
        greatest = max(choices)[0]
        wanted = min(both for one, both in choices if one == greatest)
        self.assertEqual(found, (told(greatest),) + wanted)

    def test_the_least_lots(self):
        self.assertEqual(best_neighbours((3, (), (0, 7), (3, 5, 6))), ((3, 1), (7,), (3, 5, 6)))
        self.assertEqual(best_neighbours((3, (), (0, 3), (1, 7))), ((9, 4), (0, 3), (1, 7)))
        self.assertEqual(best_neighbours((3, (), (0, 7), (1, 5))), ((1, 1), (0,), (1,)))
        # Both rows with both are as good; a lot that another one begins with is less.
        self.assertEqual(best_neighbours((3, (), (0, 7), (1, 6))), ((1, 1), (0,), (1,)))
        # Row 2 with 6 and 10, or 0 and 3 with 1: these two begin with the lesser row.
        self.assertEqual(best_neighbours((4, (), (0, 2, 3), (1, 6, 10))), ((2, 1), (0, 3), (1,)))
        self.assertEqual(best_neighbours((4, (), (1, 6, 10), (0, 2, 3))), ((2, 1), (1,), (0, 3)))

    def test_by_all_lots(self):
        dice = Dice(112)
        for question in small_questions(2)[::29] + few_questions(dice, 60, 8):
            self.check(question)
        for question in few_questions(dice, 12, 9, most_bits=3):
            self.check(question)

    def test_twelve_rows(self):
        fraction, some, others = best_neighbours(TWELVE)
        self.assertEqual(told(bound(some, others)), fraction)
        self.assertGreaterEqual(fractions.Fraction(*fraction), bound(*TWELVE[2:]))
        one = (4, (), (0,), tuple(range(1, 12)))
        self.assertEqual(best_neighbours(one), ((4, 1), (0,), (1, 2, 4, 8)))
        other = (4, (), tuple(range(1, 12)), (0,))
        self.assertEqual(best_neighbours(other), ((4, 1), (1, 2, 4, 8), (0,)))

    def test_at_most_the_leaves(self):
        for question in can_questions(Dice(113), 40, 8) + [parity(4), parity(6)]:
            leaves = least_leaves(question)[0]
            all_of = fractions.Fraction(*neighbour_bound(question))
            best = fractions.Fraction(*best_neighbours(question)[0])
            self.assertLessEqual(all_of, best)
            self.assertLessEqual(best, leaves)
        self.assertEqual(least_leaves((2, all_signs_of(2), (1, 2), (0, 3)))[0], 4)


if __name__ == "__main__":
    unittest.main()
