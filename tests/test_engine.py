"""Rectangles by masks: what parts E to G rest on ([24] to [34])."""

import itertools
import unittest

from saidbetween.engine import (
    all_partings, all_rectangles, Field, greatest_within, growing, least_table, lot_of, lots_within,
    mask_of, mask_told, NEVER, next_table, one_more, parting_signs, partings, question_field,
    sign_masks, table_of, together, whole_talk,
)
from saidbetween.questions import parted
from tests.helpers import (
    Dice, EXAMPLE, EXAMPLE_TALK, small_questions, STRANGE, subsets, thrown_question,
)


def field_of(yes_count, no_count):
    """Rectangles of so many rows without ends."""
    return Field(("yes", "no"), tuple(range(yes_count)), tuple(range(no_count)), None)


class MasksTest(unittest.TestCase):

    def test_lots_and_masks(self):
        rows = (1, 4, 9, 200)
        masks = []
        for lot in subsets(rows):
            mask = mask_of(rows, lot)
            self.assertEqual(lot_of(rows, mask), lot)
            self.assertEqual(mask_told(rows, lot), mask if lot else None)
            masks.append(mask)
        self.assertEqual(sorted(masks), list(range(16)))
        self.assertEqual(mask_of(rows, (1,)), 1)
        self.assertEqual(mask_of(rows, (200,)), 8)

    def test_what_is_no_lot_of_the_rows(self):
        rows = (1, 4, 9, 200)
        for lot in STRANGE + [(), (0,), (1, 2), (4, 1), (1, 1), (1, True), (1, 4.0), [1, 4], (256,)]:
            self.assertIsNone(mask_told(rows, lot))

    def test_lots_within(self):
        for mask in range(64):
            wanted = [part for part in range(64) if part & mask == part]
            self.assertEqual(lots_within(mask), wanted)

    def test_partings(self):
        for mask in range(64):
            found = partings(mask)
            self.assertTrue(all(part ^ rest == mask and not part & rest and part and rest
                                for part, rest in found))
            wanted = {frozenset((part, mask ^ part)) for part in lots_within(mask)
                      if part not in (0, mask)}
            self.assertEqual(len(found), len(wanted))
            self.assertEqual({frozenset(pair) for pair in found}, wanted)
        self.assertEqual(all_partings(4), [partings(mask) for mask in range(16)])

    def test_rectangles(self):
        for yes_count, no_count in ((1, 1), (2, 3), (3, 1)):
            found = all_rectangles(yes_count, no_count)
            self.assertEqual(len(found), (2 ** yes_count - 1) * (2 ** no_count - 1))
            self.assertEqual(len(set(found)), len(found))
            for at, (yes, no) in enumerate(found):
                for other in found[at + 1:]:
                    self.assertFalse(other[0] & yes == other[0] and other[1] & no == other[1])


class PartingTest(unittest.TestCase):

    def test_which_sign_parts_each_rectangle(self):
        dice = Dice(51)
        questions = small_questions(2)[::13] + [thrown_question(dice, 3) for _ in range(6)]
        for question in questions:
            _, signs, yes, no = question
            table = parting_signs(question)
            self.assertEqual(len(table), 2 ** len(yes))
            for a, b in itertools.product(range(2 ** len(yes)), range(2 ** len(no))):
                good = [sign for sign in signs
                        if parted(question, sign, lot_of(yes, a), lot_of(no, b))]
                self.assertEqual(table[a][b], good[0] if good else None)

    def test_masks_of_signs(self):
        self.assertEqual(sign_masks(EXAMPLE), [
            ((0, 0), 2, 2), ((0, 1), 1, 1), ((1, 0), 1, 2), ((1, 1), 2, 1)])


class GreatestTest(unittest.TestCase):

    def test_by_looking_at_all(self):
        dice = Dice(52)
        for yes_count, no_count in ((1, 1), (2, 3), (3, 3), (4, 1)):
            for none in (0, 1):
                places = all_rectangles(yes_count, no_count)
                field = field_of(yes_count, no_count)
                told = {places[dice.below(len(places))]: none + dice.below(9) for _ in range(5)}
                table = greatest_within(field, told, none)
                for yes, no in itertools.product(range(2 ** yes_count), range(2 ** no_count)):
                    wanted = [number for (a, b), number in told.items()
                              if a & yes == a and b & no == b]
                    self.assertEqual(table[yes][no], max(wanted, default=none))

    def test_nothing_told(self):
        self.assertEqual(greatest_within(field_of(2, 1), {}, 1), [[1, 1]] * 4)

    def test_what_grows(self):
        table = [[0, 0, 0, 0], [0, 1, 1, 2], [0, 3, 3, 3], [0, 3, 4, 4]]
        self.assertEqual(growing(field_of(2, 2), table, 1), [(2, 1, 3), (3, 2, 1), (3, 2, 2), (4, 3, 2)])
        self.assertEqual(growing(field_of(2, 2), table, 0)[:2], [(1, 1, 1), (1, 1, 2)])
        self.assertEqual(growing(field_of(2, 2), table, 3), [(4, 3, 2)])


class LeastTest(unittest.TestCase):

    def test_example(self):
        field = question_field(EXAMPLE)
        bits = least_table(field, 0, one_more)
        self.assertEqual(bits, [[0, 0, 0, 0], [0, 0, 0, 1], [0, 0, 0, 1], [0, 1, 1, 2]])
        ends = least_table(field, 1, together)
        self.assertEqual(ends, [[0, 0, 0, 0], [0, 1, 1, 2], [0, 1, 1, 2], [0, 2, 2, 4]])
        for table, join in ((bits, one_more), (ends, together)):
            self.assertEqual(whole_talk(field, table, join), EXAMPLE_TALK)

    def test_bit_by_bit(self):
        field = question_field(EXAMPLE)
        table = table_of(field, NEVER)
        for wanted in (NEVER, NEVER, 4, 4):
            table = next_table(field, table, 1, together)
            self.assertEqual(table[-1][-1], wanted)

    def test_where_no_talk_is(self):
        field = question_field((2, ((0, 1), (1, 0)), (1, 2), (0, 3)))
        for at_end, join in ((0, one_more), (1, together)):
            table = least_table(field, at_end, join)
            self.assertEqual([table[2][1], table[2][2], table[3][1], table[3][3]], [NEVER] * 4)
            self.assertEqual(table[1][1], at_end)


if __name__ == "__main__":
    unittest.main()
