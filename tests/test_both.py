"""[47]: speeches by covers of both integers, and their bound."""

import itertools
import unittest

from saidbetween.both import both_bound, by_both_covers
from saidbetween.covers import greatest_rectangles, least_cover
from saidbetween.errors import BadParameter
from saidbetween.hands import heard, is_speech, speech_bits
from saidbetween.partings import least_parting
from tests.covering import HOLLOW, STEPS
from tests.helpers import Case, Dice, is_branch, STRANGE, Touchy
from tests.test_hands import cells, GRID, GRID_REFUSALS

ZEROS = (((0,), (0,)), ((1,), (1,)))
ONES = (((0,), (1,)), ((1,), (0,)))


def said_by_rule(zeros, ones, row, column):
    """What is said for one row and one column: (HAND, NUMBER) for each naming, and the end."""
    alive = list(zeros)
    said = []
    while alive:
        for hand, side, at in (("row", 0, row), ("column", 1, column)):
            name = len(ones)
            for number in reversed(range(len(ones))):
                common = [one for one in alive if set(one[side]) & set(ones[number][side])]
                if at in ones[number][side] and len(common) <= len(alive) / 2:
                    name = number
            said.append((hand, name))
            if name < len(ones):
                alive = [one for one in alive if set(one[side]) & set(ones[name][side])]
                break
        else:
            return said, 0
    return said, 1


def bits_of_name(ones, name):
    """The bits of a number, the greatest power first."""
    count = 0
    while 2 ** count <= len(ones):
        count += 1
    return [name // 2 ** power % 2 for power in reversed(range(count))]


def speech_by_rule(grid, zeros, ones):
    """The speech told from what is said at each cell, bits that all would say left out."""
    told = {}
    for row, column in cells(grid):
        said, end = said_by_rule(zeros, ones, row, column)
        told[row, column] = ([(hand, bit) for hand, name in said
                              for bit in bits_of_name(ones, name)], end)

    def speech(rows, columns, at):
        some = told[rows[0], columns[0]]
        if at == len(some[0]):
            return some[1]
        hand = some[0][at][0]
        both = rows if hand == "row" else columns
        lot = tuple(one for one in both
                    if told[(one, columns[0]) if hand == "row" else (rows[0], one)][0][at][1] == 1)
        rest = tuple(one for one in both if one not in lot)
        if not lot or not rest:
            return speech(rows, columns, at + 1)
        parts = [speech(*((part, columns) if hand == "row" else (rows, part)), at + 1)
                 for part in (lot, rest)]
        return (hand, lot, parts[0], parts[1])
    return speech(tuple(range(len(grid))), tuple(range(len(grid[0]))), 0)


def check_needed(case, speech, rows, columns):
    """No bit is said that all who can still be there would say alike."""
    if is_branch(speech):
        hand, lot, within, without = speech
        both = rows if hand == "row" else columns
        rest = tuple(one for one in both if one not in lot)
        case.assertTrue(lot and rest and set(lot) <= set(both))
        for part, some in ((within, lot), (without, rest)):
            check_needed(case, part, *((some, columns) if hand == "row" else (rows, some)))


def plain_grids(dice, count, most=6):
    out = [GRID, STEPS, HOLLOW, ((0,),), ((1,),), ((0, 1),), ((1,), (0,)), ((1, 1), (1, 1)),
           ((0, 0), (0, 0))]
    while len(out) < count:
        rows, columns, share = 1 + dice.below(most), 1 + dice.below(most), 1 + dice.below(4)
        out.append(tuple(tuple(int(dice.below(5) < share) for _ in range(columns))
                         for _ in range(rows)))
    return out


def some_covers(dice, grid, number):
    """Covers of an integer: least ones, all greatest rectangles, cells, drawn ones."""
    out = [greatest_rectangles(grid, number),
           tuple(((row,), (column,)) for row, column in cells(grid) if grid[row][column] == number)]
    if max(len(grid), len(grid[0])) <= 5:
        out.append(least_cover(grid, number)[1])
    if max(len(grid), len(grid[0])) <= 4:
        out.append(least_parting(grid, number)[1])
    full = out[0] + out[1] + out[1]
    full = tuple(sorted(full, key=lambda _: dice.below(1000)))
    return [one for one in out + [full[::-1]] if len(one) <= 60]


class SpeechTest(Case):

    def check(self, grid, zeros, ones):
        speech = by_both_covers(grid, zeros, ones)
        self.assertEqual(speech, speech_by_rule(grid, zeros, ones))
        self.assertIs(is_speech(grid, speech), True)
        for row, column in cells(grid):
            self.assertEqual(heard(grid, speech, row, column)[1], grid[row][column])
        check_needed(self, speech, tuple(range(len(grid))), tuple(range(len(grid[0]))))
        self.assertLessEqual(speech_bits(grid, speech), both_bound(len(zeros), len(ones)))
        return speech

    def test_by_the_rule(self):
        dice = Dice(191)
        bits = set()
        for grid in plain_grids(dice, 60):
            for zeros in some_covers(dice, grid, 0):
                for ones in some_covers(dice, grid, 1):
                    bits.add(speech_bits(grid, self.check(grid, zeros, ones)))
        self.assertLessEqual(set(range(6)), bits)

    def test_all_grids_of_two_rows_and_two_columns(self):
        for numbers in itertools.product(range(2), repeat=4):
            grid = (numbers[:2], numbers[2:])
            for zeros in some_covers(Dice(192), grid, 0):
                for ones in some_covers(Dice(193), grid, 1):
                    for order in itertools.permutations(ones[:4]):
                        self.check(grid, zeros, order + ones[4:])

    def test_word_by_word(self):
        self.assertEqual(by_both_covers(GRID, ZEROS, ONES),
                         ("row", (1,), ("column", (1,), 0, 1), ("column", (0,), 0, 1)))
        # With one thing alive each thing of `ones` with a row in common has too many.
        self.assertEqual(by_both_covers(((0, 1),), (((0,), (0,)),), (((0,), (1,)),)),
                         ("column", (0,), 0, 1))
        self.assertEqual(by_both_covers(((0,), (1,)), (((0,), (0,)),), (((1,), (0,)),)),
                         ("row", (0,), 0, 1))

    def test_integers_that_stand_nowhere(self):
        for lines, columns in ((1, 1), (2, 3), (6, 6)):
            whole = ((tuple(range(lines)), tuple(range(columns))),)
            for cover in (whole, whole * 60):
                self.assertEqual(by_both_covers(((0,) * columns,) * lines, cover, ()), 0)
                self.assertEqual(by_both_covers(((1,) * columns,) * lines, (), cover), 1)

    def test_60_and_61_things(self):
        for count in (59, 60):
            self.check(GRID, ZEROS * 29 + ZEROS[:1] * (count - 58), ONES)
            self.check(GRID, ZEROS, ONES * 29 + ONES[:1] * (count - 58))
            self.check(GRID, ZEROS * 30, ONES * 30)
        many = ZEROS * 30 + ZEROS[:1]
        self.refused(BadParameter, {"value": many}, by_both_covers, GRID, many, ONES)
        self.refused(BadParameter, {"value": many}, by_both_covers, GRID, many, None)
        more = ONES * 30 + ONES[:1]
        self.refused(BadParameter, {"value": more}, by_both_covers, GRID, ZEROS, more)
        self.refused(BadParameter, {"value": 9}, by_both_covers, GRID, 9, more)

    def test_refused_in_order(self):
        grids = GRID_REFUSALS + [(grid, BadParameter, {"value": grid}) for grid in (
            ((0, 2), (1, 0)), ((3,),), ((0, 1), (1, 9)), ((1, 1), (1, 2)))]
        zeros = [(value, BadParameter, {"value": value}) for value in (
            None, ONES, (), ZEROS[:1], list(ZEROS), ZEROS + ONES[:1], ZEROS + (((), (0,)),), Touchy(),
            (Touchy(),), ZEROS + (((0,), (2,)),), ZEROS + (((0, 1), (0, 1)),), 0)]
        ones = [(value, BadParameter, {"value": value}) for value in (
            None, ZEROS, (), ONES[1:], list(ONES), ONES + ZEROS[:1], ONES + (((0,), ()),), Touchy(),
            (Touchy(),), ONES + (((2,), (0,)),), ([(0,), (1,)], ONES[1]), 1)]
        self.check_calls(by_both_covers, ("grid", "zeros", "ones"), (GRID, ZEROS, ONES),
                         [grids, zeros, ones])
        for value in STRANGE:
            if type(value) is not tuple or value:
                self.refused(BadParameter, {"value": value}, by_both_covers, ((1,),), value,
                             (((0,), (0,)),))
                self.refused(BadParameter, {"value": value}, by_both_covers, ((0,),),
                             (((0,), (0,)),), value)


class BoundTest(Case):

    def test_by_the_words(self):
        for zeros in range(61):
            for ones in range(61):
                wanted = 0
                if zeros > 0:
                    power = max(power for power in range(7) if 2 ** power <= zeros)
                    bits = min(bits for bits in range(8) if 2 ** bits > ones)
                    wanted = (power + 2) * 2 * bits
                self.assertEqual(both_bound(zeros, ones), wanted)

    def test_examples(self):
        self.assertEqual(both_bound(2, 2), (1 + 2) * 2 * 2)
        self.assertEqual(both_bound(0, 60), 0)
        self.assertEqual(both_bound(60, 0), 0)
        self.assertEqual(both_bound(1, 1), 4)
        self.assertEqual(both_bound(60, 60), 84)

    def test_refused_in_order(self):
        wrong = [(count, BadParameter, {"value": count})
                 for count in (-1, 61, True, False, None, 1.0, "1", (1,), ZEROS, Touchy(), 10 ** 40)]
        self.check_calls(both_bound, ("zeros", "ones"), (2, 2), [wrong, wrong])


if __name__ == "__main__":
    unittest.main()
