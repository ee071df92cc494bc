"""[35] to [37]: rising tables and questions, kernels, led talks, formulas of rising tables."""

import itertools
import unittest

from saidbetween.depths import least_bits
from saidbetween.errors import BadParameter, BadTable, BadTalk, TooGreat
from saidbetween.formulas import leaves_of, need_formula, tells
from saidbetween.layers import fewest_by_layers
from saidbetween.questions import can_be, question_of, rising_signs
from saidbetween.rising import falling_formula, is_rising, kernel_of, led_talk, rising_formula
from saidbetween.sizes import least_leaves
from saidbetween.talks import bits_of, ends_of, is_talk
from tests.brute import first_pair_unparted
from tests.helpers import (
    all_signs_of, Case, chain, Dice, EXAMPLE_FORMULA, formula_is_so, full, is_branch,
    QUESTION_REFUSALS, thrown_question, thrown_talk, Touchy,
)

MOST = (0, 0, 0, 1, 0, 1, 1, 1)
RISING = (3, rising_signs(3), (3, 5, 6, 7), (0, 1, 2, 4))
KERNEL = (3, rising_signs(3), (3, 5, 6), (1, 2, 4))

MANY_REFUSALS = [(many, BadParameter, {"value": many})
                 for many in (0, 9, -1, True, None, 3.0, "3", (3,), Touchy(), 10 ** 40)]
TABLE_REFUSALS = [
    (value, BadTable, {"place": place}) for value, place in (
        (None, ()), (list(MOST), ()), (MOST[:7], ()), (MOST + (1,), ()), ((), ()), (3, ()),
        (MOST[:7] + (2,), (7,)), ((False,) + MOST[1:], (0,)), (MOST[:3] + (1.0, None, 1, 1, 1), (3,)),
        (MOST[:6] + (Touchy(), None), (6,)),
    )
]
UNRISING = [
    (question, BadParameter, {"value": question}) for question in (
        (3, all_signs_of(3), (3, 5, 6, 7), (0, 1)), (3, rising_signs(2), (3,), (0,)), (1, (), (1,), (0,)),
        (3, ((0, 1), (1, 1), (2, 0)), (3,), (0,)), (2, ((0, 0), (0, 1), (1, 1)), (3,), (0,)),
    )
]


def is_below(row, other):
    """By the words of [35]."""
    return all(row // 2 ** bit % 2 <= other // 2 ** bit % 2 for bit in range(8))


def rises(many, values):
    return all(values[one] <= values[other] for one in range(2 ** many)
               for other in range(2 ** many) if is_below(one, other))


def rising_tables(many):
    """All rising tables of so many bits."""
    return [values for values in itertools.product((0, 1), repeat=2 ** many) if rises(many, values)]


def table_above(many, rows):
    """The rising table that has 1 for these rows and all above."""
    return tuple(int(any(is_below(row, other) for row in rows)) for other in range(2 ** many))


def thrown_rising(dice, many):
    _, _, yes, no = thrown_question(dice, many)
    return (many, rising_signs(many), yes, no)


def kernel(question):
    """By the words of [36]."""
    many, signs, yes, no = question
    return (many, signs,
            tuple(row for row in yes
                  if not any(is_below(other, row) and other != row for other in yes)),
            tuple(row for row in no if not any(is_below(row, other) and other != row for other in no)))


def led(question, talk):
    if not is_branch(talk):
        return talk
    hand, lot, first, second = talk
    _, _, yes, no = kernel(question)
    if hand == "yes":
        rows = [(row, next(one for one in yes if is_below(one, row))) for row in question[2]]
    else:
        rows = [(row, next(one for one in no if is_below(row, one))) for row in question[3]]
    return (hand, tuple(row for row, leader in rows if leader in lot),
            led(question, first), led(question, second))


class IsRisingTest(Case):

    def test_all_tables_of_one_to_three_bits(self):
        counts = []
        for many in (1, 2, 3):
            found = [values for values in itertools.product((0, 1), repeat=2 ** many)
                     if is_rising(many, values)]
            self.assertEqual(found, rising_tables(many))
            counts.append(len(found))
        self.assertEqual(counts, [3, 6, 20])

    def test_greater_tables(self):
        dice = Dice(101)
        for many in (4, 6, 8):
            values = table_above(many, [1 + dice.below(2 ** many - 1) for _ in range(3)])
            self.assertIs(is_rising(many, values), True)
            ones = [row for row in range(2 ** many - 1) if values[row]]
            for row in ones[:1] + ones[-1:]:
                other = values[:row] + (0,) + values[row + 1:]
                self.assertIs(is_rising(many, other), rises(many, other))
            self.assertIs(is_rising(many, values[:-1] + (0,)), False)

    def test_refused_in_order(self):
        self.check_calls(is_rising, ("many", "values"), (3, MOST), [MANY_REFUSALS, TABLE_REFUSALS])


class KernelTest(Case):

    def test_by_the_words(self):
        dice = Dice(102)
        fewer = 0
        for many in (1, 2, 3, 4, 5):
            for _ in range(25):
                question = thrown_rising(dice, many)
                found = kernel_of(question)
                self.assertEqual(found, kernel(question))
                self.assertEqual(kernel_of(found), found)
                self.assertIs(can_be(found), can_be(question))
                self.assertIs(can_be(question), first_pair_unparted(question) is None)
                fewer += len(found[2]) < len(question[2]) and len(found[3]) < len(question[3])
        self.assertGreater(fewer, 30)

    def test_example(self):
        question = question_of(3, rising_signs(3), MOST)
        self.assertEqual(question, RISING)
        self.assertEqual(kernel_of(question), KERNEL)

    def test_the_least_numbers_are_the_same(self):
        dice = Dice(103)
        checked = 0
        for many in (2, 3, 4):
            for _ in range(40):
                question = thrown_rising(dice, many)
                if not can_be(question) or len(question[2]) + len(question[3]) > 10:
                    continue
                other = kernel_of(question)
                if other == question:
                    continue
                checked += 1
                self.assertEqual(least_bits(question)[0], least_bits(other)[0])
                self.assertEqual(least_leaves(question)[0], least_leaves(other)[0])
                for layers, hand in ((1, "yes"), (1, "no"), (2, "yes"), (3, "no")):
                    self.assertEqual(fewest_by_layers(question, layers, hand)[0],
                                     fewest_by_layers(other, layers, hand)[0])
        self.assertGreater(checked, 10)

    def test_rows_of_yes_below_rows_of_no(self):
        # It can't be, but it has a kernel.
        question = (2, rising_signs(2), (0, 1), (2, 3))
        self.assertEqual(kernel_of(question), (2, rising_signs(2), (0,), (3,)))

    def test_refused_in_order(self):
        self.check_calls(kernel_of, ("question",), (RISING,), [QUESTION_REFUSALS + UNRISING])


class LedTalkTest(Case):

    def test_by_the_words(self):
        dice = Dice(104)
        for many in (1, 2, 3, 4):
            for _ in range(25):
                question = thrown_rising(dice, many)
                talk = thrown_talk(dice, question, 1 + dice.below(10))
                found = led_talk(question, talk)
                self.assertEqual(found, led(question, talk))
                self.assertEqual(bits_of(question, found), bits_of(question, talk))
                self.assertEqual(ends_of(question, found), ends_of(question, talk))

    def test_talks_that_tell_the_kernel(self):
        told = 0
        for many in (2, 3):
            for values in rising_tables(many)[::2]:
                if 0 not in values or 1 not in values:
                    continue
                question = question_of(many, rising_signs(many), values)
                for talk in (least_bits(kernel_of(question))[1],
                             least_leaves(kernel_of(question))[1]):
                    self.assertIs(is_talk(question, led_talk(question, talk)), True)
                    told += not is_talk(question, talk)
        self.assertGreater(told, 5)

    def test_example(self):
        # Row 7 is led to row 3, row 0 to row 1.
        talk = ("yes", (3,), ("no", (1,), (1, 1), (0, 1)), ("no", (2, 4), (0, 1), (2, 1)))
        self.assertEqual(led_talk(RISING, talk),
                         ("yes", (3, 7), ("no", (0, 1), (1, 1), (0, 1)), ("no", (2, 4), (0, 1), (2, 1))))

    def test_lots_lose_what_is_not_led_there(self):
        # Row 7 itself, and rows of the other lot, are no leaders.
        for lot in ((7,), (0,), (0, 1, 2, 4, 7), ()):
            self.assertEqual(led_talk(RISING, ("yes", lot, (0, 1), (1, 1))),
                             ("yes", (), (0, 1), (1, 1)))
        for lot in ((0,), (7,), (0, 3, 5, 6, 7), ()):
            self.assertEqual(led_talk(RISING, ("no", lot, (0, 1), (1, 1))),
                             ("no", (), (0, 1), (1, 1)))
        self.assertEqual(led_talk(RISING, ("no", (1, 2, 3), (0, 1), (1, 1))),
                         ("no", (0, 1, 2), (0, 1), (1, 1)))

    def test_refused_in_order(self):
        talk = ("yes", (3,), (0, 1), (1, 1))
        talks = [(None, BadTalk, {"place": ()}), (("yes", (8,), (0, 1), 0), BadTalk, {"place": (1,)}),
                 ((0, 0), BadTalk, {"place": ()}), (EXAMPLE_FORMULA, BadTalk, {"place": ()})]
        self.check_calls(led_talk, ("question", "talk"), (RISING, talk),
                         [QUESTION_REFUSALS + UNRISING, talks])
        wide = full(201, ("yes", ()), (0, 1))
        self.refused(TooGreat, {"most": 400}, led_talk, RISING, wide)
        self.refused(TooGreat, {"most": 60}, led_talk, RISING,
                     chain(61, [("no", ())], 2, (0, 1), (0, 1)))
        self.refused(BadParameter, {"value": UNRISING[0][0]}, led_talk, UNRISING[0][0], wide)


class FormulaTest(Case):

    def parts(self, formula, word):
        """The parts put together by the word to the right; each is a row of signs."""
        out = []
        while formula[0] == word:
            out.append(formula[1])
            formula = formula[2]
        return out + [formula]

    def check(self, many, values):
        low = [row for row in range(2 ** many) if values[row] == 1 and not any(
            values[other] == 1 and is_below(other, row) for other in range(2 ** many) if other != row)]
        high = [row for row in range(2 ** many) if values[row] == 0 and not any(
            values[other] == 0 and is_below(row, other) for other in range(2 ** many) if other != row)]
        for function, word, inner, rows, bit in (
            (rising_formula, "or", "and", low, 1), (falling_formula, "and", "or", high, 0),
        ):
            found = function(many, values)
            told = [self.parts(part, inner) for part in self.parts(found, word)]
            wanted = [[(place, 1) for place in range(many) if row // 2 ** place % 2 == bit]
                      for row in rows]
            # A word that joins but one sign, or but one part, does not stand.
            self.assertEqual(self.flat(told), self.flat(wanted))
            if len(rows) > 1 and max(map(len, wanted)) > 1:
                self.assertEqual(told, wanted)
            for row in {0, 1, 2 ** many // 2, 2 ** many - 1} | set(low) | set(high):
                self.assertEqual(formula_is_so(found, row), values[row] == 1)

    def flat(self, parts):
        return [sign for part in parts for sign in part]

    def test_all_rising_tables_of_one_to_four_bits(self):
        for many in (1, 2, 3):
            for values in rising_tables(many)[1:-1]:
                self.check(many, values)
        dice = Dice(105)
        for many in (4, 5, 6, 7, 8):
            for _ in range(6):
                values = table_above(many, [1 + dice.below(2 ** many - 1)
                                            for _ in range(1 + dice.below(6))])
                self.check(many, values)

    def test_they_tell_the_question(self):
        for many in (1, 2, 3):
            for values in rising_tables(many)[1:-1]:
                question = question_of(many, rising_signs(many), values)
                for function in (rising_formula, falling_formula):
                    self.assertIs(tells(question, function(many, values)), True)

    def test_parts_have_a_sign_in_common(self):
        for values in rising_tables(3)[1:-1]:
            for one in self.parts(rising_formula(3, values), "or"):
                for other in self.parts(falling_formula(3, values), "and"):
                    self.assertTrue(set(self.parts(one, "and")) & set(self.parts(other, "or")))

    def test_example(self):
        self.assertEqual(rising_formula(3, MOST), (
            "or", ("and", (0, 1), (1, 1)), ("or", ("and", (0, 1), (2, 1)), ("and", (1, 1), (2, 1)))))
        self.assertEqual(falling_formula(3, MOST), (
            "and", ("or", (1, 1), (2, 1)), ("and", ("or", (0, 1), (2, 1)), ("or", (0, 1), (1, 1)))))
        self.assertEqual(leaves_of(RISING, rising_formula(3, MOST)), 6)

    def test_word_by_word(self):
        all_ones = (0,) * 7 + (1,)
        some_one = (0,) + (1,) * 7
        ands = ("and", (0, 1), ("and", (1, 1), (2, 1)))
        ors = ("or", (0, 1), ("or", (1, 1), (2, 1)))
        self.assertEqual(rising_formula(3, all_ones), ands)
        self.assertEqual(falling_formula(3, some_one), ors)
        self.assertEqual(rising_formula(3, some_one), ors)
        self.assertEqual(falling_formula(3, all_ones), ("and", (2, 1), ("and", (1, 1), (0, 1))))
        for place in range(3):
            values = tuple(row // 2 ** place % 2 for row in range(8))
            self.assertEqual(rising_formula(3, values), (place, 1))
            self.assertEqual(falling_formula(3, values), (place, 1))
        self.assertEqual(rising_formula(1, (0, 1)), (0, 1))

    def test_greater_than_what_is_checked(self):
        values = tuple(int(bin(row).count("1") >= 4) for row in range(256))
        question = question_of(8, rising_signs(8), values)
        for function, word in ((rising_formula, "or"), (falling_formula, "and")):
            found = function(8, values)
            self.assertEqual(len(self.parts(found, word)), {"or": 70, "and": 56}[word])
            self.assertTrue(all(formula_is_so(found, row) == (values[row] == 1) for row in range(256)))
            with self.assertRaises(TooGreat):
                need_formula(question, found)

    def test_refused_in_order(self):
        for function in (rising_formula, falling_formula):
            wrong = [(values, BadParameter, {"value": values}) for values in (
                (0,) * 8, (1,) * 8, (1, 0) * 4, (0, 0, 0, 1, 0, 1, 1, 0), (1,) + (0,) * 7,
                (0, 1, 1, 1, 1, 1, 1, 0), (0, 1, 0, 0, 0, 0, 0, 1))]
            self.check_calls(function, ("many", "values"), (3, MOST),
                             [MANY_REFUSALS, TABLE_REFUSALS + wrong])
            for values in itertools.product((0, 1), repeat=4):
                if not rises(2, values) or len(set(values)) == 1:
                    self.refused(BadParameter, {"value": values}, function, 2, values)


if __name__ == "__main__":
    unittest.main()
