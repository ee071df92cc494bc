"""FRACTIONS: pairs (N, D) in least terms, D from 1 on."""

from math import gcd

from saidbetween.kinds import is_tuple

NOUGHT = (0, 1)
ONE = (1, 1)


def reduced(number, divisor):
    """A FRACTION in least terms; the divisor is above 0."""
    common = gcd(number, divisor)
    return (number // common, divisor // common)


def is_fraction(thing):
    """Whether a thing is a FRACTION."""
    if not is_tuple(thing, 2) or type(thing[0]) is not int or type(thing[1]) is not int:
        return False
    return thing[1] > 0 and gcd(thing[0], thing[1]) == 1


def is_less(first, second):
    """Whether a FRACTION is less than another one."""
    return first[0] * second[1] < second[0] * first[1]


def plus(first, second):
    """The sum of two FRACTIONS."""
    return reduced(first[0] * second[1] + second[0] * first[1], first[1] * second[1])


def whole_sum(fractions):
    """The sum of a list of FRACTIONS."""
    total = NOUGHT
    for fraction in fractions:
        total = plus(total, fraction)
    return total


def common_divisor(fractions):
    """The least D such that each of the FRACTIONS is an integer over D."""
    divisor = 1
    for fraction in fractions:
        divisor = divisor * fraction[1] // gcd(divisor, fraction[1])
    return divisor
