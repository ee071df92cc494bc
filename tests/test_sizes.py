"""[5], [27] to [29]: the fewest leaves, size books."""

import itertools
import unittest

from saidbetween.depths import least_bits
from saidbetween.errors import BadParameter, NoTalk, TooGreat
from saidbetween.questions import lesser, turned
from saidbetween.sizes import is_least_leaves, is_size_book, least_leaves
from saidbetween.talks import ends_of, is_lean, is_talk
from saidbetween.turning import formula_of
from saidbetween.formulas import leaves_of, tells
from tests.brute import (
    bent, can_questions, CHAIN_OF_SIX, few_questions, first_pair_unparted, Formulas, is_ascending,
    is_within, LONE, LONE_PAIR, no_sign_parts, partings, rectangles, THIRTEEN, TWELVE,
)
from tests.helpers import (
    all_signs_of, Case, chain, Dice, EXAMPLE, EXAMPLE_FORMULA, EXAMPLE_TALK, full,
    QUESTION_REFUSALS, small_questions, STRANGE, Touchy,
)

# The size book of the document's example.
BOOK = ((2, (1,), (0, 3)), (2, (1, 2), (0,)), (2, (1, 2), (3,)), (2, (2,), (0, 3)),
        (4, (1, 2), (0, 3)))
OTHER_TALK = ("no", (0,), ("yes", (1,), (0, 1), (1, 1)), ("yes", (1,), (1, 0), (0, 0)))
LONG_TALK = ("yes", (1, 2), EXAMPLE_TALK, (0, 0))

LEAVES_REFUSALS = [(leaves, BadParameter, {"value": leaves})
                   for leaves in (0, -1, 4097, True, False, None, 1.0, "1", (1,), Touchy(), 10 ** 40)]


def greatest_within(book, yes, no):
    return max([entry[0] for entry in book if is_within(entry[1:], (yes, no))], default=1)


def stands(question, book, entry):
    """By the words of [28]."""
    leaves, yes, no = entry
    if leaves == 1:
        return True
    return no_sign_parts(question, yes, no) and all(
        greatest_within(book, some, no) + greatest_within(book, rest, no) >= leaves
        for some, rest in partings(yes)
    ) and all(
        greatest_within(book, yes, some) + greatest_within(book, yes, rest) >= leaves
        for some, rest in partings(no)
    )


def is_right_book(question, leaves, book):
    return (is_ascending(book) and any(entry[0] >= leaves for entry in book)
            and all(stands(question, book, entry) for entry in book))


class LeastLeavesTest(Case):

    def check(self, question, wanted):
        answer = least_leaves(question)
        self.assertIs(type(answer), tuple)
        leaves, talk, book = answer
        self.assertIs(type(leaves), int)
        self.assertEqual(leaves, wanted)
        self.assertIs(is_talk(question, talk), True)
        self.assertIs(is_lean(question, talk), True)
        self.assertEqual(ends_of(question, talk), leaves)
        formula = formula_of(question, talk)
        self.assertIs(tells(question, formula), True)
        self.assertEqual(leaves_of(question, formula), leaves)
        self.assertIn((leaves, question[2], question[3]), book)
        self.assertIs(is_size_book(question, leaves, book), True)
        self.assertIs(is_size_book(question, leaves + 1, book), False)
        self.assertIs(is_least_leaves(question, answer), True)
        return book

    def test_by_sets_of_rows_that_formulas_have(self):
        dice = Dice(71)
        seen = set()
        for question in [CHAIN_OF_SIX] + can_questions(dice, 40, 7):
            wanted = Formulas(question).leaves_by_depth()[-1]
            book = self.check(question, wanted)
            self.assertTrue(is_right_book(question, wanted, book))
            seen.add(wanted)
        self.assertLessEqual({1, 2, 3, 4}, seen)

    def test_small_questions(self):
        for question in small_questions(1) + small_questions(2)[::11]:
            pair = first_pair_unparted(question)
            if pair is None:
                self.check(question, Formulas(question).leaves_by_depth()[-1])
            else:
                self.refused(NoTalk, {"pair": pair}, least_leaves, question)

    def test_example(self):
        self.check(EXAMPLE, 4)
        self.assertIs(is_size_book(EXAMPLE, 4, BOOK), True)
        self.assertIs(is_least_leaves(EXAMPLE, (4, EXAMPLE_TALK, BOOK)), True)

    def test_twelve_rows(self):
        self.check(TWELVE, 12)
        one = (4, all_signs_of(4), (0,), tuple(range(1, 12)))
        for question in (one, turned(one)):
            self.check(question, 4)
        own = (8, all_signs_of(8), (0,), tuple(2 ** place for place in range(8)))
        self.check(own, 8)

    def test_facts(self):
        dice = Dice(72)
        for question in can_questions(dice, 25, 8):
            many, signs, yes, no = question
            leaves = least_leaves(question)[0]
            bits = least_bits(question)[0]
            self.assertLessEqual(leaves, len(yes) * len(no))
            self.assertLessEqual(bits + 1, leaves)
            self.assertLessEqual(leaves, 2 ** bits)
            self.assertEqual(least_leaves(turned(question))[0], leaves)
            self.assertLessEqual(
                least_leaves(lesser(question, dice.some(yes, 1), dice.some(no, 1)))[0], leaves)

    def test_refused_in_order(self):
        self.check_calls(least_leaves, ("question",), (EXAMPLE,), [QUESTION_REFUSALS])
        self.refused(TooGreat, {"most": 12}, least_leaves, THIRTEEN)
        self.refused(TooGreat, {"most": 12}, least_leaves, (4, (), THIRTEEN[2], THIRTEEN[3]))
        self.refused(NoTalk, {"pair": LONE_PAIR}, least_leaves, LONE)
        self.refused(NoTalk, {"pair": (1, 0)}, least_leaves, (4, (), TWELVE[2], TWELVE[3]))


class IsLeastLeavesTest(Case):

    def test_right_triples_that_are_not_the_told_one(self):
        full_book = tuple(sorted(
            [(leaves,) + one for leaves, one in [
                (1, ((1,), (0,))), (1, ((2,), (3,))), (2, ((1,), (0, 3))), (2, ((2,), (0, 3))),
                (2, ((1, 2), (0,))), (2, ((1, 2), (3,))), (3, ((1, 2), (0, 3))),
                (4, ((1, 2), (0, 3)))]]))
        for talk in (EXAMPLE_TALK, OTHER_TALK):
            for book in (BOOK, full_book):
                self.assertIs(is_least_leaves(EXAMPLE, (4, talk, book)), True)

    def test_the_talk_need_not_be_lean(self):
        # Nobody comes to the second sign; with few signs as many ends are needed all the same.
        question = (2, EXAMPLE[1], (1,), (0, 2))
        self.assertEqual(least_leaves(question)[0], 1)
        self.assertIs(is_least_leaves(question, (1, (0, 1), ((1, (1,), (0,)),))), True)
        self.assertIs(is_least_leaves(question, (1, (0, 1), ())), False)
        self.assertIs(is_least_leaves(question, (2, ("yes", (1,), (0, 1), (0, 1)),
                                                 ((1, (1,), (0,)),))), False)
        wide = ("yes", (1, 3), EXAMPLE_TALK[2], ("no", (0, 1), (1, 1), (0, 0)))
        self.assertIs(is_talk(EXAMPLE, wide), True)
        self.assertIs(is_least_leaves(EXAMPLE, (4, wide, BOOK)), True)

    def test_an_entry_whatever_its_lots(self):
        # Row 3 may be left out of NO, row 7 of YES: as many leaves are needed.
        question = (3, all_signs_of(3), (1, 2, 5), (0, 3))
        leaves, talk, book = least_leaves(question)
        self.assertEqual(leaves, 4)
        self.assertIs(is_least_leaves(question, (4, talk, BOOK)), True)
        self.assertNotIn((4, (1, 2, 5), (0, 3)), BOOK)

    def test_bent_triples(self):
        dice = Dice(73)
        for question in [EXAMPLE] + can_questions(dice, 8, 6):
            leaves, talk, book = least_leaves(question)
            for other in (leaves - 1, leaves + 1, float(leaves), str(leaves), None, (leaves,), -leaves,
                          10 ** 30, 4097, 0):
                self.assertIs(is_least_leaves(question, (other, talk, book)), False)
            longer = ("yes", question[2], talk, question[1][0])
            self.assertIs(is_least_leaves(question, (leaves, longer, book)), False)
            self.assertIs(is_least_leaves(question, (leaves + 1, longer, book)), False)
            for at in range(len(book)):
                left = book[:at] + book[at + 1:]
                wanted = is_right_book(question, leaves, left)
                self.assertIs(is_least_leaves(question, (leaves, talk, left)), wanted)
        one = (2, EXAMPLE[1], (1,), (0,))
        self.assertIs(is_least_leaves(one, least_leaves(one)), True)
        self.assertIs(is_least_leaves(one, (True,) + least_leaves(one)[1:]), False)

    def test_values_of_any_kind(self):
        for value in ((4, EXAMPLE_TALK), [4, EXAMPLE_TALK, BOOK], EXAMPLE_TALK, BOOK,
                      (4, EXAMPLE_TALK, BOOK, 0), (4, LONG_TALK, BOOK), (5, LONG_TALK, BOOK)):
            self.assertIs(is_least_leaves(EXAMPLE, value), False)
        for value in STRANGE + [EXAMPLE, EXAMPLE_FORMULA]:
            self.assertIs(is_least_leaves(EXAMPLE, value), False)
            self.assertIs(is_least_leaves(EXAMPLE, (value, EXAMPLE_TALK, BOOK)), False)
            self.assertIs(is_least_leaves(EXAMPLE, (4, value, BOOK)), False)
            self.assertIs(is_least_leaves(EXAMPLE, (4, EXAMPLE_TALK, value)), False)
        for talk in (full(201, ("yes", (1,)), (0, 1)), chain(61, [("no", ())], 2, (0, 1), (0, 1))):
            self.assertIs(is_least_leaves(EXAMPLE, (4, talk, BOOK)), False)

    def test_where_no_talk_is(self):
        book = ((4, (2,), (0,)),)
        self.assertIs(is_size_book(LONE, 4, book), True)
        self.assertIs(is_least_leaves(LONE, (4, EXAMPLE_TALK, book)), False)
        self.assertIs(is_least_leaves(LONE, (2, ("yes", (1,), (0, 1), (1, 0)), book)), False)

    def test_refused_in_order(self):
        for value in ((4, EXAMPLE_TALK, BOOK), None, Touchy()):
            self.check_calls(is_least_leaves, ("question", "value"), (EXAMPLE, value),
                             [QUESTION_REFUSALS])
            self.refused(TooGreat, {"most": 12}, is_least_leaves, THIRTEEN, value)
        self.assertIs(is_least_leaves(TWELVE, None), False)


class IsSizeBookTest(Case):

    def test_books_bent(self):
        dice = Dice(74)
        seen = set()
        for question in [EXAMPLE, LONE] + few_questions(dice, 14, 5):
            all_of = rectangles(question)
            pair = first_pair_unparted(question)
            if pair is None:
                leaves, _, book = least_leaves(question)
            else:
                leaves, book = 3, ((7, pair[:1], pair[1:]),)

            def entry():
                return (1 + dice.below(leaves + 1),) + all_of[dice.below(len(all_of))]
            for other in [book] + bent(dice, book, entry, 8) + self.raised(book):
                for told in (max(leaves - 1, 1), leaves, leaves + 1):
                    wanted = is_right_book(question, told, other)
                    self.assertIs(is_size_book(question, told, other), wanted)
                    seen.add((wanted, pair is None))
        self.assertEqual(len(seen), 4)

    def raised(self, book):
        """The book with one entry that tells more leaves."""
        return [tuple(sorted(book[:at] + ((book[at][0] + 1,) + book[at][1:],) + book[at + 1:]))
                for at in range(len(book))]

    def test_each_entry_of_the_example_is_wanted(self):
        for at in range(4):
            self.assertIs(is_size_book(EXAMPLE, 4, BOOK[:at] + BOOK[at + 1:]), False)
        for leaves in (1, 2):
            self.assertIs(is_size_book(EXAMPLE, leaves, BOOK[:4]), True)
        for leaves in (1, 2, 3, 4):
            self.assertIs(is_size_book(EXAMPLE, leaves, BOOK), True)
        for leaves in (5, 4096):
            self.assertIs(is_size_book(EXAMPLE, leaves, BOOK), False)
        self.assertIs(is_size_book(EXAMPLE, 3, BOOK[:4] + ((3, (1, 2), (0, 3)),)), True)
        for lots in (((1,), (0, 3)), ((1, 2), (0, 3))):
            self.assertIs(is_size_book(EXAMPLE, 4, tuple(sorted(BOOK + ((5,) + lots,)))), False)

    def test_one_leaf_always_stands(self):
        for lots in rectangles(EXAMPLE):
            self.assertIs(is_size_book(EXAMPLE, 1, ((1,) + lots,)), True)
            self.assertIs(is_size_book(EXAMPLE, 2, ((1,) + lots,)), False)
        self.assertIs(is_size_book(EXAMPLE, 1, ()), False)
        self.assertIs(is_size_book(EXAMPLE, 1, ((2, (1,), (0,)),)), False)

    def test_other_orders_and_kinds(self):
        for order in itertools.permutations(BOOK):
            self.assertIs(is_size_book(EXAMPLE, 4, order), order == BOOK)
        self.assertIs(is_size_book(EXAMPLE, 4, list(BOOK)), False)
        self.assertIs(is_size_book(EXAMPLE, 4, BOOK + BOOK[-1:]), False)

    def test_numbers_of_leaves(self):
        for leaves, wanted in ((1, True), (4095, True), (4096, True), (4097, False), (0, False),
                               (-1, False), (True, False), (2.0, False), (None, False)):
            self.assertIs(is_size_book(LONE, 1, ((leaves, (2,), (0,)),)), wanted)
        self.assertIs(is_size_book(LONE, 4096, ((4095, (2,), (0,)),)), False)
        self.assertIs(is_size_book(LONE, 4096, ((4096, (2,), (0,)),)), True)

    def test_entries_of_wrong_forms(self):
        for entry in (
            (4, (), (0, 3)), (4, (1, 2), ()), (4, (0, 3), (1, 2)), (4, (1, 2, 3), (0, 3)),
            (4, (1, 2), (0, 2, 3)), (4, (2, 1), (0, 3)), (4, [1, 2], (0, 3)), (4, (1, 2), [0, 3]),
            (4, (1, 2)), (4, (1, 2), (0, 3), ()), [4, (1, 2), (0, 3)], (4.0, (1, 2), (0, 3)),
            (0, (1, 2), (0, 3)), ("4", (1, 2), (0, 3)), (4, (True, 2), (0, 3)), (4, 1, 0),
        ):
            self.assertIs(is_size_book(EXAMPLE, 2, BOOK[:4] + (entry,)), False)
            self.assertIs(is_size_book(EXAMPLE, 2, (entry,) + BOOK), False)
            self.assertIs(is_size_book(EXAMPLE, 2, BOOK + (entry,)), False)

    def test_values_of_any_kind(self):
        for value in STRANGE + [EXAMPLE]:
            for leaves in (1, 4, 4096):
                self.assertIs(is_size_book(EXAMPLE, leaves, value), False)
            self.assertIs(is_size_book(EXAMPLE, 2, BOOK + (value,)), False)
            for at in range(3):
                entry = BOOK[4][:at] + (value,) + BOOK[4][at + 1:]
                self.assertIs(is_size_book(EXAMPLE, 2, BOOK[:4] + (entry,)), False)

    def test_20000_entries_and_more(self):
        question = (2, (), (1, 2), (0, 3))
        book = tuple(sorted((leaves,) + lots for lots in rectangles(question)
                            for leaves in range(1, 4097)))
        for count, wanted in ((20000, True), (20001, False)):
            self.assertIs(is_size_book(question, 2000, book[:count]), wanted)

    def test_refused_in_order(self):
        for value in (BOOK, None, Touchy()):
            self.check_calls(is_size_book, ("question", "leaves", "value"), (EXAMPLE, 4, value),
                             [QUESTION_REFUSALS, LEAVES_REFUSALS])
            self.refused(TooGreat, {"most": 12}, is_size_book, THIRTEEN, 4, value)
            for leaves in (0, 4097, True):
                self.refused(BadParameter, {"value": leaves}, is_size_book, THIRTEEN, leaves, value)
        for leaves in (1, 4096):
            self.assertIs(is_size_book(EXAMPLE, leaves, None), False)


if __name__ == "__main__":
    unittest.main()
