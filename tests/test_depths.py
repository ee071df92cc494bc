"""[5], [6], [24] to [26]: the least bits, books, how many rectangles can be talked."""

import itertools
import unittest

from saidbetween.depths import is_book, is_least_bits, least_bits, talked
from saidbetween.errors import BadParameter, NoTalk, TooGreat
from saidbetween.questions import lesser, turned
from saidbetween.talks import bits_of, is_lean, is_talk
from tests.brute import (
    bent, can_questions, few_questions, first_pair_unparted, Formulas, is_ascending, is_within,
    LONE, LONE_PAIR, lots, no_sign_parts, parity, partings, rectangles, THIRTEEN, TWELVE,
)
from tests.helpers import (
    all_signs_of, Case, chain, Dice, EXAMPLE, EXAMPLE_FORMULA, EXAMPLE_TALK, full,
    QUESTION_REFUSALS, small_questions, STRANGE, subsets, Touchy,
)

# The book of the document's example.
EXAMPLE_BOOK = ((0, (1,), (0, 3)), (0, (1, 2), (0,)), (1, (1, 2), (0, 3)))

BITS_REFUSALS = [(bits, BadParameter, {"value": bits})
                 for bits in (-1, 401, True, False, None, 1.0, "1", (1,), [1], Touchy(), 10 ** 40)]


def stands(question, book, entry):
    """By the words of [6]."""
    bits, yes, no = entry
    if bits == 0:
        return no_sign_parts(question, yes, no)
    for some in subsets(yes):
        rest = tuple(row for row in yes if row not in some)
        if not any(other[0] == bits - 1 and (is_within(other[1:], (some, no))
                                             or is_within(other[1:], (rest, no)))
                   for other in book):
            return False
    for some in subsets(no):
        rest = tuple(row for row in no if row not in some)
        if not any(other[0] == bits - 1 and (is_within(other[1:], (yes, some))
                                             or is_within(other[1:], (yes, rest)))
                   for other in book):
            return False
    return True


def is_right_book(question, bits, book):
    """By the words of [6] and [25]."""
    return (is_ascending(book) and all(entry[0] <= bits for entry in book)
            and any(entry[0] == bits for entry in book)
            and all(stands(question, book, entry) for entry in book))


def counts(question):
    """How many rectangles can be talked in 0, 1, .. bits, each looked at by itself."""
    all_of = rectangles(question)
    known = {one for one in all_of if not no_sign_parts(question, *one)}
    out = [len(known)]
    while len(known) < len(all_of):
        known |= {
            (yes, no) for yes, no in all_of
            if any((a, no) in known and (b, no) in known for a, b in partings(yes))
            or any((yes, a) in known and (yes, b) in known for a, b in partings(no))
        }
        out.append(len(known))
    return tuple(out)


class LeastBitsTest(Case):

    def check(self, question, wanted):
        answer = least_bits(question)
        self.assertIs(type(answer), tuple)
        bits, talk, book = answer
        self.assertIs(type(bits), int)
        self.assertEqual(bits, wanted)
        self.assertIs(is_talk(question, talk), True)
        self.assertEqual(bits_of(question, talk), bits)
        if bits == 0:
            self.assertEqual(book, ())
        else:
            self.assertIs(is_book(question, bits - 1, book), True)
        self.assertIs(is_least_bits(question, answer), True)
        return answer

    def test_by_sets_of_rows_that_formulas_have(self):
        dice = Dice(61)
        seen = set()
        for question in can_questions(dice, 60, 7):
            wanted = Formulas(question).least_depth()
            book = self.check(question, wanted)[2]
            if wanted:
                self.assertTrue(is_right_book(question, wanted - 1, book))
            seen.add((question[0], wanted))
        self.assertGreaterEqual(len(seen), 9)
        self.assertEqual({many for many, _ in seen}, {1, 2, 3, 4})
        self.assertLessEqual({0, 1, 2, 3}, {bits for _, bits in seen})

    def test_small_questions(self):
        for question in small_questions(1) + small_questions(2)[::9]:
            pair = first_pair_unparted(question)
            if pair is None:
                self.check(question, Formulas(question).least_depth())
            else:
                self.refused(NoTalk, {"pair": pair}, least_bits, question)
                self.refused(NoTalk, {"pair": pair}, talked, question)

    def test_rising_questions(self):
        dice = Dice(62)
        for many in (2, 3, 4):
            rising = tuple((place, 1) for place in range(many))
            for _ in range(6):
                cut = 1 + dice.below(many)
                yes = tuple(row for row in range(2 ** many) if bin(row).count("1") >= cut)[:4]
                no = tuple(row for row in range(2 ** many) if bin(row).count("1") < cut)[-4:]
                question = (many, rising, yes, no)
                self.check(question, Formulas(question).least_depth())

    def test_example(self):
        self.check(EXAMPLE, 2)
        self.assertIs(is_least_bits(EXAMPLE, (2, EXAMPLE_TALK, EXAMPLE_BOOK)), True)
        self.assertIs(is_book(EXAMPLE, 1, EXAMPLE_BOOK), True)

    def test_twelve_rows(self):
        self.check(TWELVE, 4)
        one = (4, all_signs_of(4), (0,), tuple(range(1, 12)))
        for question in (one, turned(one)):
            self.check(question, 2)
        rising = (8, tuple((place, 1) for place in range(8)), (255,),
                  (0, 1, 2) + tuple(255 - 2 ** place for place in range(7, -1, -1)))
        self.check(rising, 3)

    def test_facts(self):
        dice = Dice(63)
        for question in can_questions(dice, 25, 8):
            many, signs, yes, no = question
            bits = least_bits(question)[0]
            self.assertEqual(least_bits(turned(question))[0], bits)
            self.assertLessEqual(
                least_bits(lesser(question, dice.some(yes, 1), dice.some(no, 1)))[0], bits)
            self.assertLessEqual(least_bits((many, all_signs_of(many), yes, no))[0], bits)
            if bits:
                for more in range(bits, bits + 3):
                    self.assertIs(is_book(question, more, least_bits(question)[2]), False)
        for question in can_questions(dice, 15, 8):
            some = dice.some(question[2], 1)
            rest = tuple(row for row in question[2] if row not in some)
            if rest:
                both = [least_bits(lesser(question, one, question[3]))[0] for one in (some, rest)]
                self.assertLessEqual(least_bits(question)[0], max(both) + 1)

    def test_talks_are_lean(self):
        for question in can_questions(Dice(64), 20, 7):
            self.assertIs(is_lean(question, least_bits(question)[1]), True)

    def test_refused_in_order(self):
        for function in (least_bits, talked):
            self.check_calls(function, ("question",), (EXAMPLE,), [QUESTION_REFUSALS])
            self.refused(TooGreat, {"most": 12}, function, THIRTEEN)
            self.refused(TooGreat, {"most": 12}, function, (4, (), THIRTEEN[2], THIRTEEN[3]))
            self.refused(NoTalk, {"pair": LONE_PAIR}, function, LONE)
            self.refused(NoTalk, {"pair": (1, 0)}, function, (4, (), TWELVE[2], TWELVE[3]))


class IsLeastBitsTest(Case):

    def test_triples_with_each_thing_changed(self):
        dice = Dice(65)
        for question in [EXAMPLE] + can_questions(dice, 8, 6):
            bits, talk, book = least_bits(question)
            for other in (bits - 1, bits + 1, float(bits), str(bits), (bits,), None, bits + 400,
                          10 ** 30, -1):
                self.assertIs(is_least_bits(question, (other, talk, book)), False)
            sign = question[1][0]
            deeper = ("yes", question[2], talk, sign)
            self.assertIs(is_talk(question, deeper), True)
            self.assertIs(is_least_bits(question, (bits, deeper, book)), False)
            self.assertIs(is_least_bits(question, (bits + 1, deeper, book)), False)
            for at in range(len(book)):
                left = book[:at] + book[at + 1:]
                wanted = is_right_book(question, bits - 1, left)
                self.assertIs(is_least_bits(question, (bits, talk, left)), wanted)

    def test_true_is_not_one_and_false_not_nought(self):
        one = (2, EXAMPLE[1], (1, 2), (0,))
        bits, talk, book = least_bits(one)
        self.assertEqual(bits, 1)
        self.assertIs(is_least_bits(one, (1, talk, book)), True)
        self.assertIs(is_least_bits(one, (True, talk, book)), False)
        none = (2, EXAMPLE[1], (1,), (0,))
        self.assertIs(is_least_bits(none, (0, (0, 1), ())), True)
        self.assertIs(is_least_bits(none, (False, (0, 1), ())), False)

    def test_no_bits_want_an_empty_book(self):
        none = (2, EXAMPLE[1], (1,), (0,))
        for book in (EXAMPLE_BOOK, ((0, (1,), (0,)),), [], None, ((),), "", Touchy()):
            self.assertIs(is_least_bits(none, (0, (0, 1), book)), False)
        self.assertIs(is_least_bits(none, (0, (1, 1), ())), False)
        self.assertIs(is_least_bits(EXAMPLE, (0, (0, 1), ())), False)

    def test_other_right_talks_and_books(self):
        full_book = tuple(sorted(
            [(0,) + one for one in rectangles(EXAMPLE) if no_sign_parts(EXAMPLE, *one)]
            + [(1, (1, 2), (0, 3))]))
        other = ("no", (0,), ("yes", (1,), (0, 1), (1, 1)), ("yes", (1,), (1, 0), (0, 0)))
        wider = ("yes", (1, 3), ("no", (0, 1), (0, 1), (1, 0)), ("no", (0,), (1, 1), (0, 0)))
        for talk in (EXAMPLE_TALK, other, wider):
            for book in (EXAMPLE_BOOK, full_book):
                self.assertIs(is_least_bits(EXAMPLE, (2, talk, book)), True)
        for talk in (EXAMPLE_FORMULA, (0, 1), ("yes", (1,), EXAMPLE_TALK[2], EXAMPLE_TALK[2]),
                     ("yes", (1, 2), EXAMPLE_TALK, (0, 0))):
            self.assertIs(is_least_bits(EXAMPLE, (2, talk, EXAMPLE_BOOK)), False)
        # A talk that need not say its first bit has more bits all the same.
        self.assertIs(is_least_bits(EXAMPLE, (3, ("yes", (1, 2), other, (0, 0)), full_book)), False)

    def test_values_of_any_kind(self):
        for value in ((2, EXAMPLE_TALK), [2, EXAMPLE_TALK, EXAMPLE_BOOK], EXAMPLE_TALK,
                      (2, EXAMPLE_TALK, EXAMPLE_BOOK, 0)):
            self.assertIs(is_least_bits(EXAMPLE, value), False)
        for value in STRANGE + [EXAMPLE, EXAMPLE_FORMULA]:
            self.assertIs(is_least_bits(EXAMPLE, value), False)
            self.assertIs(is_least_bits(EXAMPLE, (value, EXAMPLE_TALK, EXAMPLE_BOOK)), False)
            self.assertIs(is_least_bits(EXAMPLE, (2, value, EXAMPLE_BOOK)), False)
            self.assertIs(is_least_bits(EXAMPLE, (2, EXAMPLE_TALK, value)), False)
        for talk in (full(201, ("yes", (1,)), (0, 1)), chain(61, [("no", ())], 2, (0, 1), (0, 1))):
            self.assertIs(is_least_bits(EXAMPLE, (2, talk, EXAMPLE_BOOK)), False)

    def test_where_no_talk_is(self):
        self.assertIs(is_least_bits(LONE, (2, EXAMPLE_TALK, EXAMPLE_BOOK)), False)
        self.assertIs(is_least_bits(LONE, (0, (0, 1), ())), False)

    def test_refused_in_order(self):
        for value in ((2, EXAMPLE_TALK, EXAMPLE_BOOK), None, Touchy()):
            self.check_calls(is_least_bits, ("question", "value"), (EXAMPLE, value),
                             [QUESTION_REFUSALS])
            self.refused(TooGreat, {"most": 12}, is_least_bits, THIRTEEN, value)
        self.assertIs(is_least_bits(TWELVE, None), False)


class IsBookTest(Case):

    def test_books_bent(self):
        dice = Dice(66)
        seen = set()
        for question in [EXAMPLE, LONE] + few_questions(dice, 14, 5):
            all_of = rectangles(question)
            for bits, book in self.books_of(question):
                def entry():
                    return (dice.below(bits + 2),) + all_of[dice.below(len(all_of))]
                for other in [book] + bent(dice, book, entry, 6):
                    for told in (bits - 1, bits, bits + 1):
                        if told >= 0:
                            wanted = is_right_book(question, told, other)
                            self.assertIs(is_book(question, told, other), wanted)
                            seen.add((wanted, first_pair_unparted(question) is None))
        self.assertEqual(len(seen), 4)

    def books_of(self, question):
        pair = first_pair_unparted(question)
        if pair is None:
            bits, _, book = least_bits(question)
            return [(bits - 1, book)] if bits else [(0, ())]
        lone = ((pair[0],), (pair[1],))
        return [(bits, tuple((one,) + lone for one in range(bits + 1))) for bits in (0, 2)]

    def test_each_entry_of_the_example_is_wanted(self):
        for at in range(3):
            left = EXAMPLE_BOOK[:at] + EXAMPLE_BOOK[at + 1:]
            self.assertIs(is_book(EXAMPLE, 1, left), False)
        self.assertIs(is_book(EXAMPLE, 0, EXAMPLE_BOOK[:2]), True)
        self.assertIs(is_book(EXAMPLE, 0, EXAMPLE_BOOK[:1]), True)
        self.assertIs(is_book(EXAMPLE, 1, EXAMPLE_BOOK[:2]), False)
        self.assertIs(is_book(EXAMPLE, 0, EXAMPLE_BOOK), False)
        self.assertIs(is_book(EXAMPLE, 2, EXAMPLE_BOOK), False)
        self.assertIs(is_book(EXAMPLE, 2, EXAMPLE_BOOK + ((2, (1, 2), (0, 3)),)), False)

    def test_other_orders_and_kinds(self):
        for order in itertools.permutations(EXAMPLE_BOOK):
            self.assertIs(is_book(EXAMPLE, 1, order), order == EXAMPLE_BOOK)
        self.assertIs(is_book(EXAMPLE, 1, list(EXAMPLE_BOOK)), False)
        self.assertIs(is_book(EXAMPLE, 1, EXAMPLE_BOOK + EXAMPLE_BOOK[-1:]), False)
        self.assertIs(is_book(EXAMPLE, 1, EXAMPLE_BOOK[:1] + EXAMPLE_BOOK), False)
        self.assertIs(is_book(EXAMPLE, 0, ()), False)
        self.assertIs(is_book(EXAMPLE, 1, ()), False)

    def test_entries_of_wrong_forms(self):
        for entry in (
            (1, (), (0, 3)), (1, (1, 2), ()), (1, (), ()), (1, (0, 3), (1, 2)),
            (1, (1, 2, 3), (0, 3)), (1, (1, 2), (0, 2, 3)), (1, (2, 1), (0, 3)), (1, (1, 1), (0,)),
            (1, [1, 2], (0, 3)), (1, (1, 2), [0, 3]), (1, (1, 2)), (1, (1, 2), (0, 3), ()),
            [1, (1, 2), (0, 3)], (True, (1, 2), (0, 3)), (1.0, (1, 2), (0, 3)), (-1, (1,), (0, 3)),
            (2, (1, 2), (0, 3)), ("1", (1, 2), (0, 3)), (1, (1, 2.0), (0, 3)), (1, (True, 2), (0, 3)),
            (1, 1, 0), (1, (1, 2), (False, 3)),
        ):
            self.assertIs(is_book(EXAMPLE, 1, EXAMPLE_BOOK[:2] + (entry,)), False)
            self.assertIs(is_book(EXAMPLE, 1, (entry,) + EXAMPLE_BOOK), False)
            self.assertIs(is_book(EXAMPLE, 1, EXAMPLE_BOOK + (entry,)), False)

    def test_values_of_any_kind(self):
        for value in STRANGE:
            for bits in (0, 1, 400):
                self.assertIs(is_book(EXAMPLE, bits, value), False)
            self.assertIs(is_book(EXAMPLE, 1, EXAMPLE_BOOK + (value,)), False)
            for at in range(3):
                entry = EXAMPLE_BOOK[2][:at] + (value,) + EXAMPLE_BOOK[2][at + 1:]
                self.assertIs(is_book(EXAMPLE, 1, EXAMPLE_BOOK[:2] + (entry,)), False)

    def test_pairs_that_no_sign_parts_have_books_for_all_bits(self):
        book = tuple((bits, (2,), (0,)) for bits in range(401))
        for bits in (0, 1, 17, 400):
            self.assertIs(is_book(LONE, bits, book[:bits + 1]), True)
            self.assertIs(is_book(LONE, bits, book[:bits]), False)
            if bits:
                self.assertIs(is_book(LONE, bits - 1, book[:bits + 1]), False)
                self.assertIs(is_book(LONE, bits, book[1:bits + 1]), False)
        self.assertIs(is_book(LONE, 400, book[:200] + book[201:]), False)
        # An entry is no help for itself, nor is one with more bits.
        self.assertIs(is_book(LONE, 5, book[5:6]), False)
        self.assertIs(is_book(LONE, 5, book[:1] + book[4:6]), False)

    def test_20000_entries_and_more(self):
        # All rectangles with a pair that no sign parts stand for all bits.
        question = (4, ((0, 1), (1, 0)), (1, 3, 5, 7, 9, 15), (0, 2, 4, 6, 8, 11))
        self.assertEqual(first_pair_unparted(question), (3, 11))
        some = [lot for lot in lots(question[2]) if 3 in lot]
        others = [lot for lot in lots(question[3]) if 11 in lot]
        book = sorted((bits, a, b) for bits in range(20) for a in some for b in others)
        self.assertEqual(len(book), 20480)
        for count, wanted in ((20000, True), (20001, False), (20480, False)):
            self.assertIs(is_book(question, 19, tuple(book[:count])), wanted)

    def test_the_greatest_number_of_bits(self):
        question = (4, (), TWELVE[2], TWELVE[3])
        book = tuple((bits, (TWELVE[2][bits % 6],), (TWELVE[3][0],)) for bits in range(401))
        self.assertIs(is_book(question, 400, book), False)
        book = tuple((bits, TWELVE[2], TWELVE[3]) for bits in range(401))
        self.assertIs(is_book(question, 0, book[:1]), True)
        self.assertIs(is_book(question, 1, book[:2]), False)
        book = tuple((bits, (1,), (0,)) for bits in range(401))
        self.assertIs(is_book(question, 400, book[:400] + ((400,) + question[2:],)), True)

    def test_refused_in_order(self):
        for value in (EXAMPLE_BOOK, None, Touchy()):
            self.check_calls(is_book, ("question", "bits", "value"), (EXAMPLE, 1, value),
                             [QUESTION_REFUSALS, BITS_REFUSALS])
            for bits in (1, -1, None):
                self.refused(TooGreat, {"most": 12}, is_book, THIRTEEN, bits, value)
        for bits in (0, 400):
            self.assertIs(is_book(EXAMPLE, bits, None), False)


class TalkedTest(Case):

    def test_counted_rectangle_by_rectangle(self):
        for question in can_questions(Dice(67), 20, 7):
            answer = talked(question)
            self.assertEqual(answer, counts(question))
            self.assertEqual(len(answer) - 1, least_bits(question)[0])
            self.assertEqual(answer[-1],
                             (2 ** len(question[2]) - 1) * (2 ** len(question[3]) - 1))

    def test_example(self):
        self.assertEqual(talked(EXAMPLE), (4, 8, 9))
        self.assertEqual(talked((2, EXAMPLE[1], (1,), (0,))), (1,))
        self.assertEqual(talked(parity(6))[-1], 63 * 63)


if __name__ == "__main__":
    unittest.main()
