"""[27], [30]: the fewest leaves with few bits, too."""

import unittest

from saidbetween.depths import least_bits
from saidbetween.errors import BadParameter, NoTalk, TooGreat
from saidbetween.few import best_of, is_best_of, leaves_by_bits
from saidbetween.sizes import least_leaves
from saidbetween.talks import bits_of, ends_of, is_talk
from tests.brute import (
    can_questions, CHAIN_OF_FIVE, CHAIN_OF_SIX, few_questions, first_pair_unparted, Formulas, LONE,
    LONE_PAIR, THIRTEEN, TWELVE,
)
from tests.helpers import (
    all_signs_of, Case, chain, Dice, EXAMPLE, EXAMPLE_FORMULA, EXAMPLE_TALK, full,
    QUESTION_REFUSALS, small_questions, STRANGE, Touchy,
)

BITS_REFUSALS = [(bits, BadParameter, {"value": bits})
                 for bits in (-1, 21, True, False, None, 1.0, "1", (1,), Touchy(), 10 ** 40)]

MOST = (3, ((0, 1), (1, 1), (2, 1)), (3, 5, 6, 7), (0, 1, 2, 4))


class BestOfTest(Case):

    def check(self, question, told):
        """`told` has the fewest leaves for 0, 1, .. bits, None for none; the last goes on."""
        for bits in list(range(len(told) + 2)) + [20]:
            leaves = told[min(bits, len(told) - 1)]
            answer = best_of(question, bits)
            self.assertIs(is_best_of(question, bits, answer), True)
            if leaves is None:
                self.assertIsNone(answer)
                continue
            self.assertIs(type(answer), tuple)
            self.assertEqual(answer[0], leaves)
            self.assertIs(type(answer[0]), int)
            self.assertIs(is_talk(question, answer[1]), True)
            self.assertEqual(ends_of(question, answer[1]), leaves)
            self.assertLessEqual(bits_of(question, answer[1]), bits)
        first = next(bits for bits, leaves in enumerate(told) if leaves is not None)
        last = told.index(told[-1])
        self.assertEqual(leaves_by_bits(question),
                         tuple((bits, told[bits]) for bits in range(first, last + 1)))

    def test_by_sets_of_rows_that_formulas_have(self):
        dice = Dice(81)
        lengths = set()
        for question in [MOST, CHAIN_OF_FIVE, CHAIN_OF_SIX] + can_questions(dice, 40, 7):
            self.check(question, Formulas(question).leaves_by_depth())
            lengths.add(len(leaves_by_bits(question)))
        self.assertLessEqual({1, 2, 3}, lengths)

    def test_more_bits_with_fewer_leaves(self):
        self.assertEqual(leaves_by_bits(CHAIN_OF_FIVE), ((3, 6), (4, 5)))
        # As few leaves in four bits as in three, but fewer in five.
        self.assertEqual(leaves_by_bits(CHAIN_OF_SIX), ((3, 7), (4, 7), (5, 6)))
        self.assertEqual(leaves_by_bits(MOST), ((3, 5),))

    def test_small_questions(self):
        for question in small_questions(1) + small_questions(2)[::11]:
            pair = first_pair_unparted(question)
            if pair is None:
                self.check(question, Formulas(question).leaves_by_depth())
            else:
                self.refused(NoTalk, {"pair": pair}, best_of, question, 2)
                self.refused(NoTalk, {"pair": pair}, leaves_by_bits, question)

    def test_example(self):
        self.check(EXAMPLE, [None, None, 4])
        self.assertEqual(leaves_by_bits(EXAMPLE), ((2, 4),))
        self.assertIsNone(best_of(EXAMPLE, 1))
        self.check((2, EXAMPLE[1], (1,), (0,)), [1])

    def test_facts(self):
        for question in [CHAIN_OF_FIVE, CHAIN_OF_SIX] + can_questions(Dice(82), 25, 8):
            pairs = leaves_by_bits(question)
            self.assertEqual(pairs[0][0], least_bits(question)[0])
            self.assertEqual(pairs[-1][1], least_leaves(question)[0])
            for one, other in zip(pairs, pairs[1:]):
                self.assertEqual(other[0], one[0] + 1)
                self.assertLessEqual(other[1], one[1])

    def test_twelve_rows(self):
        self.assertEqual(leaves_by_bits(TWELVE), ((4, 12),))
        self.assertIsNone(best_of(TWELVE, 3))
        own = (8, all_signs_of(8), (0,), tuple(2 ** place for place in range(8)))
        self.assertEqual(leaves_by_bits(own), ((3, 8),))

    def test_refused_in_order(self):
        self.check_calls(best_of, ("question", "bits"), (EXAMPLE, 2),
                         [QUESTION_REFUSALS, BITS_REFUSALS])
        self.check_calls(best_of, ("question", "bits"), (EXAMPLE, 1), [])
        self.check_calls(leaves_by_bits, ("question",), (EXAMPLE,), [QUESTION_REFUSALS])
        for bits in (-1, 21, True):
            self.refused(BadParameter, {"value": bits}, best_of, THIRTEEN, bits)
            self.refused(BadParameter, {"value": bits}, best_of, LONE, bits)
        for function, more in ((best_of, (0,)), (best_of, (20,)), (leaves_by_bits, ())):
            self.refused(TooGreat, {"most": 12}, function, THIRTEEN, *more)
            self.refused(TooGreat, {"most": 12}, function, (4, ()) + THIRTEEN[2:], *more)
            self.refused(NoTalk, {"pair": LONE_PAIR}, function, LONE, *more)
            self.refused(NoTalk, {"pair": (1, 0)}, function, (4, ()) + TWELVE[2:], *more)


class IsBestOfTest(Case):

    def test_right_and_bent(self):
        dice = Dice(84)
        for question in [EXAMPLE, CHAIN_OF_FIVE, CHAIN_OF_SIX] + can_questions(dice, 10, 6):
            told = Formulas(question).leaves_by_depth()
            sign = question[1][0]
            for bits in range(len(told) + 1):
                leaves = told[min(bits, len(told) - 1)]
                self.assertIs(is_best_of(question, bits, None), leaves is None)
                some = best_of(question, 20)
                deep = bits_of(question, some[1]) > bits
                self.assertIs(is_best_of(question, bits, some), not deep and leaves == some[0])
                if leaves is None:
                    continue
                _, talk = best_of(question, bits)
                for other in (leaves - 1, leaves + 1, float(leaves), str(leaves), None, (leaves,)):
                    self.assertIs(is_best_of(question, bits, (other, talk)), False)
                longer = ("yes", question[2], talk, sign)
                self.assertIs(is_best_of(question, bits, (leaves, longer)), False)
                self.assertIs(is_best_of(question, bits, (leaves + 1, longer)), False)

    def test_too_many_bits(self):
        # Its leaves are the fewest in two bits, too, but it says three.
        chain_talk = ("yes", (1,), (0, 1), ("yes", (2,), (1, 1), ("yes", (4,), (2, 1), (3, 1))))
        question = (4, ((0, 1), (1, 1), (2, 1), (3, 1)), (1, 2, 4, 8), (0,))
        self.assertIs(is_talk(question, chain_talk), True)
        for bits in range(5):
            self.assertIs(is_best_of(question, bits, (4, chain_talk)), bits >= 3)
        self.assertEqual(leaves_by_bits(question), ((2, 4),))

    def test_other_talks(self):
        other = ("no", (0,), ("yes", (1,), (0, 1), (1, 1)), ("yes", (1,), (1, 0), (0, 0)))
        for bits in (2, 3, 20):
            for talk in (EXAMPLE_TALK, other):
                self.assertIs(is_best_of(EXAMPLE, bits, (4, talk)), True)
        self.assertIs(is_best_of(EXAMPLE, 1, (4, other)), False)
        wrong = ("yes", (2,)) + EXAMPLE_TALK[2:]
        self.assertIs(is_best_of(EXAMPLE, 2, (4, wrong)), False)

    def test_values_of_any_kind(self):
        for value in STRANGE + [EXAMPLE, [4, EXAMPLE_TALK], (4, EXAMPLE_TALK, 0), (4,), EXAMPLE_TALK]:
            self.assertIs(is_best_of(EXAMPLE, 2, value), False)
            self.assertIs(is_best_of(EXAMPLE, 1, value), value is None)
            self.assertIs(is_best_of(EXAMPLE, 2, (value, EXAMPLE_TALK)), False)
        for value in STRANGE + [EXAMPLE, EXAMPLE_FORMULA, full(201, ("yes", (1,)), (0, 1)),
                                chain(61, [("no", ())], 2, (0, 1), (0, 1))]:
            self.assertIs(is_best_of(EXAMPLE, 2, (4, value)), False)

    def test_where_no_talk_is(self):
        for question in [LONE] + [one for one in few_questions(Dice(85), 30, 6)
                                  if first_pair_unparted(one) is not None]:
            for bits in (0, 2, 20):
                self.assertIs(is_best_of(question, bits, None), True)
                self.assertIs(is_best_of(question, bits, (1, (0, 1))), False)
                self.assertIs(is_best_of(question, bits, (4, EXAMPLE_TALK)), False)

    def test_refused_in_order(self):
        for value in ((4, EXAMPLE_TALK), None, Touchy()):
            self.check_calls(is_best_of, ("question", "bits", "value"), (EXAMPLE, 2, value),
                             [QUESTION_REFUSALS, BITS_REFUSALS])
            self.refused(TooGreat, {"most": 12}, is_best_of, THIRTEEN, 0, value)
            for bits in (-1, 21, True):
                self.refused(BadParameter, {"value": bits}, is_best_of, THIRTEEN, bits, value)


if __name__ == "__main__":
    unittest.main()
