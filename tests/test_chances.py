"""[53] to [55]: odds, mixes, best answers, and what the worth is."""

import itertools
import unittest
from fractions import Fraction

from saidbetween.chances import best_speech, is_worth, least_chance, worth
from saidbetween.errors import BadParameter, TooGreat
from saidbetween.hands import need_speech, speech_bits
from saidbetween.saying import least_said
from tests.brute import partings
from tests.helpers import (
    Case, chain, Dice, EXAMPLE_TALK, full, STRANGE, Touchy, TouchyNumber,
)
from tests.test_hands import (
    cells, followed, GRID, GRID_REFUSALS, SPEECH, thrown_grid, thrown_speech, WRONG_SPEECHES,
)

CORNER = ((0, 0), (0, 1))
EVEN = (((1, 4), (1, 4)), ((1, 4), (1, 4)))
ENDS = (((1, 2), 0), ((1, 2), 1))
THREE = (((1, 3), ("row", (1,), 1, 0)), ((1, 3), ("column", (1,), 1, 0)), ((1, 3), 0))
THIRDS = (((0, 1), (1, 3)), ((1, 3), (1, 3)))

SMALL_REFUSALS = GRID_REFUSALS + [
    (grid, TooGreat, {"most": 4}) for grid in (
        ((0,),) * 5, ((0,) * 5,), ((1,) * 6,) * 6, ((0,) * 5,) * 4, ((0,) * 4,) * 5)
]
BITS_REFUSALS = [(bits, BadParameter, {"value": bits})
                 for bits in (-1, 3, True, False, None, 1.0, "1", (1,), Touchy(), 10 ** 40)]

# What is no FRACTION from nought on.
NO_SHARES = [
    None, 0, 1, "1/4", [1, 4], (1,), (1, 4, 1), (2, 8), (0, 2), (0, 4), (1, 0), (0, 0), (-1, 4), (1, -4),
    (-1, -4), (True, 4), (1, True), (1.0, 4), (1, 4.0), (Touchy(), 4), (1, Touchy()), Touchy(),
    (TouchyNumber(1), 4), ((1, 4),), ("1", "4"), Fraction(1, 4),
]


def pair(fraction):
    return (fraction.numerator, fraction.denominator)


def thrown_parts(dice, count, zeros=True):
    """So many fractions that are together one."""
    while True:
        parts = [dice.below(7) + (0 if zeros else 1) for _ in range(count)]
        if sum(parts):
            return [pair(Fraction(part, sum(parts))) for part in parts]


def thrown_odds(dice, grid):
    parts = thrown_parts(dice, len(grid) * len(grid[0]))
    width = len(grid[0])
    return tuple(tuple(parts[row * width:(row + 1) * width]) for row in range(len(grid)))


def thrown_mix(dice, grid, bits, count):
    speeches = []
    while len(speeches) < count:
        speech = thrown_speech(dice, grid, 1 + dice.below(2 ** bits))
        if speech_bits(grid, speech) <= bits:
            speeches.append(speech)
    return tuple(zip(thrown_parts(dice, count, zeros=False), speeches))


def small_grids(dice, count, most=4):
    out = [GRID, CORNER, ((3,),), ((1, 2),), ((1,), (1,))]
    while len(out) < count:
        out.append(thrown_grid(dice, limit=2 + dice.below(5), most=most))
    return out


def share_of(grid, speech, odds):
    """The sum of the odds at which a speech is right."""
    return sum([Fraction(*odds[row][column]) for row, column in cells(grid)
                if followed(speech, row, column)[1] == grid[row][column]], Fraction(0))


def chance_at(grid, mix, cell):
    return sum([Fraction(*weight) for weight, speech in mix
                if followed(speech, *cell)[1] == grid[cell[0]][cell[1]]], Fraction(0))


def best_share(grid, odds, bits, rows=None, columns=None):
    """The best of all speeches, all partings of rows and of columns gone through."""
    if rows is None:
        rows, columns = tuple(range(len(grid))), tuple(range(len(grid[0])))
    best = max(sum([Fraction(*odds[row][column]) for row in rows for column in columns
                    if grid[row][column] == number], Fraction(0)) for number in range(10))
    if bits > 0:
        for one, other in partings(rows):
            best = max(best, best_share(grid, odds, bits - 1, one, columns)
                       + best_share(grid, odds, bits - 1, other, columns))
        for one, other in partings(columns):
            best = max(best, best_share(grid, odds, bits - 1, rows, one)
                       + best_share(grid, odds, bits - 1, rows, other))
    return best


def is_share(thing):
    """Whether a thing is a FRACTION from nought on."""
    return type(thing) is tuple and [type(one) for one in thing] == [int, int] and (
        thing[0] >= 0 and thing[1] > 0 and pair(Fraction(*thing)) == thing)


class BestSpeechTest(Case):

    def check(self, grid, bits, odds):
        share, speech = best_speech(grid, bits, odds)
        self.assertTrue(is_share(share))
        self.assertIs(need_speech(grid, speech), speech)
        self.assertLessEqual(speech_bits(grid, speech), bits)
        self.assertEqual(share_of(grid, speech, odds), Fraction(*share))
        self.assertEqual(best_share(grid, odds, bits), Fraction(*share))

    def test_by_all_partings(self):
        dice = Dice(221)
        for grid in small_grids(dice, 40, most=3):
            for bits in range(3):
                self.check(grid, bits, thrown_odds(dice, grid))

    def test_four_rows_and_columns(self):
        dice = Dice(222)
        for lines, columns in ((4, 4), (4, 2), (1, 4), (4, 3)):
            grid = tuple(tuple(dice.below(4) for _ in range(columns)) for _ in range(lines))
            for bits in range(3):
                self.check(grid, bits, thrown_odds(dice, grid))

    def test_odds_at_one_cell_alone(self):
        for cell in cells(GRID):
            odds = tuple(tuple((int((row, column) == cell), 1) for column in range(2))
                         for row in range(2))
            for bits in range(3):
                self.assertEqual(best_speech(GRID, bits, odds)[0], (1, 1))

    def test_examples(self):
        self.assertEqual([best_speech(GRID, bits, EVEN)[0] for bits in range(3)],
                         [(1, 2), (1, 2), (1, 1)])
        self.assertEqual([best_speech(CORNER, bits, THIRDS)[0] for bits in range(3)],
                         [(2, 3), (2, 3), (1, 1)])

    def test_refused_in_order(self):
        odds = [(value, BadParameter, {"value": value}) for value in (
            None, Touchy(), (), EVEN[:1], list(EVEN), (list(EVEN[0]), EVEN[1]), EVEN + EVEN[:1],
            (EVEN[0], EVEN[1][:1]), (EVEN[0] + ((0, 1),), EVEN[1]), (EVEN[0] + ((0, 1),),) * 2, 1,
            (((1, 4), (1, 4)), ((1, 4), (1, 2))), (((1, 4), (1, 4)), ((1, 4), (0, 1))),
            (((1, 1), (1, 1)), ((1, 1), (1, 1))), (((0, 1), (0, 1)), ((0, 1), (0, 1))),
            (((3, 4), (1, 4)), ((1, 4), (-1, 4))), ENDS)]
        self.check_calls(best_speech, ("grid", "bits", "odds"), (GRID, 1, EVEN),
                         [SMALL_REFUSALS, BITS_REFUSALS, odds])

    def test_fractions_that_are_none(self):
        self.assertEqual(best_speech(((1,),), 0, (((1, 1),),)), ((1, 1), 1))
        for thing in NO_SHARES + STRANGE:
            for at in range(4):
                told = list(EVEN[0] + EVEN[1])
                told[at] = thing
                odds = ((told[0], told[1]), (told[2], told[3]))
                self.refused(BadParameter, {"value": odds}, best_speech, GRID, 1, odds)
            self.refused(BadParameter, {"value": (((1, 1), thing),)}, best_speech, ((0, 1),), 0,
                         (((1, 1), thing),))
        for thing in ((2, 2), (4, 4), (True, 1), (1, True), 1, (-1, -1)):
            self.refused(BadParameter, {"value": ((thing,),)}, best_speech, ((0,),), 0, ((thing,),))


class LeastChanceTest(Case):

    def test_cell_by_cell(self):
        dice = Dice(223)
        unlike = 0
        for grid in small_grids(dice, 40):
            for bits in range(3):
                mix = thrown_mix(dice, grid, bits, 1 + dice.below(6))
                chances = [chance_at(grid, mix, cell) for cell in cells(grid)]
                least = min(chances)
                first = cells(grid)[chances.index(least)]
                self.assertEqual(least_chance(grid, bits, mix), (pair(least), first))
                unlike += first != (0, 0) and chances.count(least) > 1
        self.assertGreater(unlike, 5)

    def test_examples(self):
        self.assertEqual(least_chance(GRID, 0, ENDS), ((1, 2), (0, 0)))
        self.assertEqual(least_chance(GRID, 2, (((1, 1), SPEECH),)), ((1, 1), (0, 0)))
        self.assertEqual(least_chance(GRID, 0, (((1, 1), 0),)), ((0, 1), (0, 1)))
        self.assertEqual(least_chance(CORNER, 1, THREE), ((2, 3), (0, 1)))
        self.assertEqual(least_chance(GRID, 0, (((1, 1), 7),)), ((0, 1), (0, 0)))

    def test_400_and_401_pairs(self):
        for count, good in ((1, True), (2, True), (400, True), (401, False), (1000, False)):
            mix = (((1, count), 0),) * count
            if good:
                self.assertEqual(least_chance(CORNER, 0, mix), ((0, 1), (1, 1)))
            else:
                self.refused(BadParameter, {"value": mix}, least_chance, CORNER, 0, mix)

    def test_refused_in_order(self):
        one = ("row", (1,), 1, 0)
        mixes = [(value, BadParameter, {"value": value}) for value in (
            None, Touchy(), (), list(ENDS), (list(ENDS[0]), ENDS[1]), ENDS[:1], ENDS + ENDS[:1], 1, one,
            (((1, 2), 0), ((1, 3), 1)), (((1, 2), 0), ((1, 2),)), (((1, 2), 0), ((1, 2), 1, 0)),
            (((1, 1), 0), ((0, 1), 1)), (((3, 2), 0), ((-1, 2), 1)), (((1, 1), SPEECH),),
            (((1, 2), 0), ((1, 2), 10)), (((1, 2), 0), ((1, 2), -1)), (((1, 2), 0), ((1, 2), True)),
            (((1, 2), 0), ((1, 2), EXAMPLE_TALK)), EVEN, ((1, 2), 0), (0, 1))]
        self.check_calls(least_chance, ("grid", "bits", "mix"), (GRID, 1, (((1, 2), one), ((1, 2), 1))),
                         [SMALL_REFUSALS, BITS_REFUSALS, mixes])

    def test_speeches_of_too_many_bits(self):
        speeches = (0, ("row", (1,), 1, 0), SPEECH, ("row", (0,), SPEECH, 0))
        for bits in range(3):
            for told, speech in enumerate(speeches):
                mix = (((1, 2), 1), ((1, 2), speech))
                if told <= bits:
                    self.assertIn(least_chance(GRID, bits, mix)[0], ((0, 1), (1, 2)))
                else:
                    self.refused(BadParameter, {"value": mix}, least_chance, GRID, bits, mix)

    def test_things_of_any_kind(self):
        for thing in NO_SHARES + STRANGE:
            mix = (((1, 2), 0), (thing, 1))
            self.refused(BadParameter, {"value": mix}, least_chance, GRID, 1, mix)
        for thing in [value for value, _ in WRONG_SPEECHES] + STRANGE + [
                full(201, ("row", ()), 0), chain(61, [("row", ())], 2, 0, 0)]:
            mix = (((1, 2), thing), ((1, 2), 1))
            self.refused(BadParameter, {"value": mix}, least_chance, GRID, 2, mix)
        for thing in STRANGE:
            self.refused(BadParameter, {"value": (((1, 1), 0), thing)}, least_chance, GRID, 1,
                         (((1, 1), 0), thing))
            if type(thing) is not tuple or thing:
                self.refused(BadParameter, {"value": thing}, least_chance, GRID, 1, thing)


class WorthTest(Case):

    def check(self, grid, bits):
        share, mix, odds = answer = worth(grid, bits)
        self.assertTrue(is_share(share))
        self.assertEqual(sum(Fraction(*weight) for weight, _ in mix), 1)
        self.assertTrue(all(is_share(weight) and weight[0] > 0 for weight, _ in mix))
        self.assertLessEqual(len(mix), 400)
        for _, speech in mix:
            self.assertIs(need_speech(grid, speech), speech)
            self.assertLessEqual(speech_bits(grid, speech), bits)
        self.assertEqual(min(chance_at(grid, mix, cell) for cell in cells(grid)), Fraction(*share))
        self.assertTrue(all(is_share(one) for line in odds for one in line))
        self.assertEqual([len(line) for line in odds], [len(line) for line in grid])
        self.assertEqual(sum(Fraction(*one) for line in odds for one in line), 1)
        self.assertEqual(best_share(grid, odds, bits), Fraction(*share))
        self.assertIs(is_worth(grid, bits, answer), True)
        return Fraction(*share)

    def test_all_grids_of_two_rows_and_columns(self):
        for numbers in itertools.product(range(2), repeat=4):
            for bits in range(3):
                self.check((numbers[:2], numbers[2:]), bits)

    def test_drawn_grids(self):
        dice = Dice(224)
        shares = set()
        for grid in small_grids(dice, 25, most=3):
            for bits in range(3):
                shares.add(self.check(grid, bits))
        self.assertGreater(len(shares), 8)

    def test_four_rows_and_columns(self):
        dice = Dice(225)
        for limit in (2, 3, 10):
            grid = tuple(tuple(dice.below(limit) for _ in range(4)) for _ in range(4))
            for bits in range(3):
                self.check(grid, bits)
        unlike = tuple(tuple((row * 4 + column) % 10 for column in range(4)) for row in range(4))
        self.assertEqual(self.check(unlike, 0), Fraction(1, 10))

    def test_facts(self):
        dice = Dice(226)
        for grid in small_grids(dice, 30):
            shares = [Fraction(*worth(grid, bits)[0]) for bits in range(3)]
            self.assertEqual(shares[0], Fraction(1, len({one for line in grid for one in line})))
            needed = least_said(grid)[0]
            for bits in range(3):
                self.assertEqual(shares[bits] == 1, needed <= bits)
                if bits > 0:
                    self.assertLessEqual(shares[bits - 1], shares[bits])
                    self.assertLessEqual(shares[bits], 2 * shares[bits - 1])
            order = sorted(range(len(grid)), key=lambda _: dice.below(1000))
            columns = sorted(range(len(grid[0])), key=lambda _: dice.below(1000))
            others = [tuple(tuple(grid[row][column] for column in columns) for row in order)]
            if len(grid) < 4:
                others.append(grid + grid[:1])
            if len(grid[0]) < 4:
                others.append(tuple(line + line[-1:] for line in grid))
            names = sorted(range(10), key=lambda _: dice.below(1000))
            others.append(tuple(tuple(names[one] for one in line) for line in grid))
            for other in others:
                self.assertEqual([Fraction(*worth(other, bits)[0]) for bits in range(3)], shares)

    def test_examples(self):
        self.assertEqual([worth(GRID, bits)[0] for bits in range(3)], [(1, 2), (1, 2), (1, 1)])
        self.assertEqual([worth(CORNER, bits)[0] for bits in range(3)], [(1, 2), (2, 3), (1, 1)])
        self.assertIs(is_worth(GRID, 0, ((1, 2), ENDS, EVEN)), True)
        self.assertIs(is_worth(GRID, 1, ((1, 2), ENDS, EVEN)), True)
        self.assertIs(is_worth(CORNER, 1, ((2, 3), THREE, THIRDS)), True)
        self.assertEqual(worth(((5, 5), (5, 5)), 0)[0], (1, 1))

    def test_refused_in_order(self):
        self.check_calls(worth, ("grid", "bits"), (CORNER, 1), [SMALL_REFUSALS, BITS_REFUSALS])
        for value in (((2, 3), THREE, THIRDS), None, Touchy()):
            self.check_calls(is_worth, ("grid", "bits", "value"), (CORNER, 1, value),
                             [SMALL_REFUSALS, BITS_REFUSALS])


class IsWorthTest(Case):

    def test_right_ones_that_are_not_told(self):
        self.assertIs(is_worth(CORNER, 1, ((2, 3), THREE[::-1], THIRDS)), True)
        halves = tuple(((1, 6), speech) for _, speech in THREE) * 2
        self.assertIs(is_worth(CORNER, 1, ((2, 3), halves, THIRDS)), True)
        both = (((1, 4), 0), ((1, 4), 1), ((1, 4), ("row", (0,), 0, 0)), ((1, 4), ("column", (), 0, 1)))
        self.assertIs(is_worth(GRID, 1, ((1, 2), both, EVEN)), True)
        self.assertIs(is_worth(GRID, 0, ((1, 2), both, EVEN)), False)
        for odds in ((((1, 2), (1, 2)), ((0, 1), (0, 1))), (((1, 3), (1, 6)), ((1, 3), (1, 6)))):
            self.assertIs(is_worth(GRID, 0, ((1, 2), ENDS, odds)), best_share(GRID, odds, 0) <= Fraction(1, 2))
            self.assertIs(is_worth(GRID, 1, ((1, 2), ENDS, odds)), best_share(GRID, odds, 1) <= Fraction(1, 2))

    def test_bent(self):
        dice = Dice(227)
        kept = 0
        for grid in small_grids(dice, 12, most=3):
            for bits in range(3):
                share, mix, odds = worth(grid, bits)
                for other in ((1, 7), (99, 100), (0, 1), (2, 1), (share[0] * 2, share[1] * 2),
                              share[0], Fraction(*share), None, (-1, 2), list(share)):
                    if other != share or type(other) is not tuple:
                        self.assertIs(is_worth(grid, bits, (other, mix, odds)), False)
                for _ in range(4):
                    other = thrown_odds(dice, grid)
                    wanted = best_share(grid, other, bits) <= Fraction(*share)
                    self.assertIs(is_worth(grid, bits, (share, mix, other)), wanted)
                    kept += wanted
                    another = thrown_mix(dice, grid, bits, 1 + dice.below(4))
                    least = min(chance_at(grid, another, cell) for cell in cells(grid))
                    wanted = least == Fraction(*share)
                    self.assertIs(is_worth(grid, bits, (share, another, odds)), wanted)
                    self.assertIs(is_worth(grid, bits, (pair(least), another, odds)), wanted)
                self.assertIs(is_worth(grid, bits, (share, mix[1:], odds)), False)
                self.assertIs(is_worth(grid, bits, (share, mix + mix[:1], odds)), False)
                self.assertIs(is_worth(grid, bits, (share, list(mix), odds)), False)
                self.assertIs(is_worth(grid, bits, (share, mix, odds[1:])), False)
                self.assertIs(is_worth(grid, bits, (share, mix, odds + odds[:1])), False)
                self.assertIs(is_worth(grid, bits, (share, odds, mix)), False)
        self.assertGreater(kept, 3)

    def test_values_of_any_kind(self):
        good = ((2, 3), THREE, THIRDS)
        self.assertIs(is_worth(CORNER, 1, good), True)
        for value in STRANGE:
            self.assertIs(is_worth(CORNER, 1, value), False)
            for at in range(3):
                self.assertIs(is_worth(CORNER, 1, good[:at] + (value,) + good[at + 1:]), False)
            self.assertIs(is_worth(CORNER, 1, (good[0], THREE[:2] + (value,), THIRDS)), False)
            self.assertIs(is_worth(CORNER, 1, (good[0], THREE[:2] + (((1, 3), value),), THIRDS)), False)
            self.assertIs(is_worth(CORNER, 1, (good[0], THREE[:2] + ((value, 0),), THIRDS)), False)
            self.assertIs(is_worth(CORNER, 1, (good[0], THREE, (THIRDS[0], value))), False)
            self.assertIs(is_worth(CORNER, 1, (good[0], THREE, (THIRDS[0], ((1, 3), value)))), False)
        for value in (list(good), good[:2], good + (0,), good[::-1], THREE, (2, 3)):
            self.assertIs(is_worth(CORNER, 1, value), False)


if __name__ == "__main__":
    unittest.main()
