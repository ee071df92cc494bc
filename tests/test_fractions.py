"""FRACTIONS, told in part I: pairs in least terms, with which is reckoned exactly."""

import unittest
from fractions import Fraction

from saidbetween.fractions import common_divisor, is_fraction, is_less, plus, reduced, whole_sum
from tests.helpers import Case, Dice, STRANGE, Touchy, TouchyNumber


def told(pair):
    return Fraction(*pair)


def thrown(dice, most=60):
    return reduced(dice.below(2 * most) - most, 1 + dice.below(most))


class FractionTest(Case):

    def test_reduced(self):
        for number in range(-30, 31):
            for divisor in range(1, 31):
                found = reduced(number, divisor)
                wanted = Fraction(number, divisor)
                self.assertEqual(found, (wanted.numerator, wanted.denominator))
                self.assertIs(is_fraction(found), True)
                self.assertIs(is_fraction((number, divisor)), found == (number, divisor))
        self.assertEqual(reduced(0, 7), (0, 1))
        self.assertEqual(reduced(10 ** 40, 10 ** 39), (10, 1))

    def test_what_is_none(self):
        for value in STRANGE + [(1, 0), (0, 0), (1, -2), (-1, -2), (0, 2), (2, 4), (1, 2, 3), (1,), [1, 2],
                                (True, 2), (1, True), (1.0, 2), (1, 2.0), ("1", 2), (1, "2"), (None, 1),
                                (Touchy(), 1), (1, Touchy()), (TouchyNumber(1), 2), 1, "1/2"]:
            self.assertIs(is_fraction(value), False)
        for value in ((0, 1), (1, 1), (-3, 2), (10 ** 40, 3)):
            self.assertIs(is_fraction(value), True)

    def test_reckoned(self):
        dice = Dice(211)
        for _ in range(300):
            one, other, third = thrown(dice), thrown(dice), thrown(dice)
            self.assertEqual(told(plus(one, other)), told(one) + told(other))
            self.assertIs(is_less(one, other), told(one) < told(other))
            self.assertIs(is_less(one, one), False)
            self.assertEqual(told(whole_sum([one, other, third])), told(one) + told(other) + told(third))
            divisor = common_divisor([one, other, third])
            for fraction in (one, other, third):
                self.assertEqual(divisor % fraction[1], 0)
            self.assertTrue(any(divisor % (fraction[1] * 2) for fraction in (one, other, third)))
            self.assertIs(is_fraction(plus(one, other)), True)
        self.assertEqual(whole_sum([]), (0, 1))
        self.assertEqual(common_divisor([]), 1)
        self.assertEqual(common_divisor([(1, 4), (1, 6), (5, 1)]), 12)


if __name__ == "__main__":
    unittest.main()
