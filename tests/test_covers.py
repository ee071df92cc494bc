"""[45], [46]: greatest rectangles, covers, the least ones and their papers."""

import itertools
import unittest

from saidbetween.covers import (
    greatest_rectangles, is_cover, is_cover_paper, is_least_cover, least_cover,
)
from saidbetween.hands import cells_at
from saidbetween.saying import greatest_fool
from tests.covering import cells_in, cells_with, Covering, greatest_with, some_grids, STEPS
from tests.helpers import Case, Dice
from tests.test_hands import GRID, GRID_REFUSALS
from tests.test_saying import NUMBER_REFUSALS


class GreatestTest(Case):

    def test_by_all_sets_of_rows_and_of_columns(self):
        dice = Dice(171)
        for grid in some_grids(dice, 40, 4):
            for number in range(10):
                found = greatest_rectangles(grid, number)
                self.assertEqual(found, tuple(sorted(greatest_with(grid, number))))
                if number not in {one for line in grid for one in line}:
                    self.assertEqual(found, ())

    def test_all_grids_of_two_rows_and_three_columns(self):
        for numbers in itertools.product(range(2), repeat=6):
            grid = (numbers[:3], numbers[3:])
            for number in (0, 1):
                self.assertEqual(list(greatest_rectangles(grid, number)),
                                 sorted(greatest_with(grid, number)))

    def test_greatest_grids(self):
        same = tuple(tuple(int(row == column) for column in range(6)) for row in range(6))
        self.assertEqual(greatest_rectangles(same, 1), tuple(((at,), (at,)) for at in range(6)))
        # One for each set of rows but all and none, with all other columns.
        self.assertEqual(len(greatest_rectangles(same, 0)), 62)
        self.assertEqual(greatest_rectangles(((4,) * 6,) * 6, 4), ((tuple(range(6)),) * 2,))
        for number in (0, 1):
            self.assertIs(is_cover(same, number, greatest_rectangles(same, number)), True)

    def test_examples(self):
        self.assertEqual(greatest_rectangles(GRID, 0), (((0,), (0,)), ((1,), (1,))))
        self.assertEqual(greatest_rectangles(STEPS, 0), (((0,), (2,)), ((2,), (0,))))
        self.assertEqual(greatest_rectangles(STEPS, 1),
                         (((0, 1), (0, 1)), ((0, 1, 2), (1,)), ((1,), (0, 1, 2)), ((1, 2), (1, 2))))

    def test_refused_in_order(self):
        self.check_calls(greatest_rectangles, ("grid", "number"), (GRID, 0),
                         [GRID_REFUSALS, NUMBER_REFUSALS])


class CoverTest(Covering, Case):

    exact = False
    most = 5
    judge = is_cover
    least = least_cover
    judge_paper = is_cover_paper
    judge_least = is_least_cover

    def test_examples(self):
        self.assertEqual(least_cover(GRID, 0)[0], 2)
        self.assertIs(is_cover_paper(GRID, 0, 2, ("fool", ((0, 0), (1, 1)))), True)
        count, found, _ = least_cover(STEPS, 1)
        self.assertEqual(count, 2)
        self.assertEqual(set(found), {((0, 1), (0, 1)), ((1, 2), (1, 2))})

    def test_five_rows_and_columns(self):
        hollow = tuple(tuple(int(row != column) for column in range(5)) for row in range(5))
        self.assertEqual(self.told(hollow, 1)[0], 4)
        self.assertEqual(self.told(hollow, 0)[0], 5)
        dice = Dice(172)
        for _ in range(6):
            grid = tuple(tuple(int(dice.below(4) > 0) for _ in range(5)) for _ in range(5))
            for number in (0, 1):
                answer = self.told(grid, number)
                self.assertIs(is_least_cover(grid, number, answer), True)

    def test_other_rectangles_than_greatest_ones(self):
        value = (2, (((0, 1), (0,)), ((1, 2), (1, 2))), ("fool", ((0, 0), (1, 2))))
        self.assertIs(is_least_cover(STEPS, 1, value), False)
        value = (2, (((0, 1), (0, 1)), ((1, 2), (2,))), ("fool", ((0, 0), (1, 2))))
        self.assertIs(is_least_cover(STEPS, 1, value), False)
        value = (2, (((1, 2), (1, 2)), ((0, 1), (0, 1))), ("fool", ((0, 1), (1, 1))))
        self.assertIs(is_least_cover(STEPS, 1, value), False)
        value = (2, (((1, 2), (1, 2)), ((0, 1), (0, 1))), ("fool", ((0, 0), (2, 2))))
        self.assertIs(is_least_cover(STEPS, 1, value), True)

    def test_facts(self):
        dice = Dice(173)
        for grid in some_grids(dice, 30, 5):
            for number in (0, 1, 2):
                count = least_cover(grid, number)[0]
                self.assertGreaterEqual(count, len(greatest_fool(grid, number)))
                self.assertLessEqual(count, min(len(grid), len(grid[0])))
                self.assertEqual(count == 0, not cells_with(grid, number))
        # The ends of a speech that have the integer are a cover of it.
        speech = ("row", (0,), ("column", (0,), 0, 1), ("column", (0,), 1, 0))
        for number in (0, 1):
            ends = tuple(end[:2] for end in cells_at(GRID, speech) if end[2] == number)
            self.assertIs(is_cover(GRID, number, ends), True)
            self.assertEqual(set().union(*map(cells_in, ends)), cells_with(GRID, number))


if __name__ == "__main__":
    unittest.main()
