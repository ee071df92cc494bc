"""[45], [46]: partings, the least ones and their papers."""

import itertools
import unittest

from saidbetween.covers import least_cover
from saidbetween.partings import (
    is_least_parting, is_parting, is_parting_paper, least_parting,
)
from saidbetween.saying import least_said
from tests.covering import cells_with, Covering, some_grids, STEPS
from tests.helpers import Case, Dice
from tests.test_hands import GRID


class PartingTest(Covering, Case):

    exact = True
    most = 4
    judge = is_parting
    least = least_parting
    judge_paper = is_parting_paper
    judge_least = is_least_parting

    def test_examples(self):
        self.assertEqual(least_parting(GRID, 0)[0], 2)
        self.assertEqual(least_parting(STEPS, 1)[0], 3)
        self.assertEqual(least_cover(STEPS, 1)[0], 2)
        # What lies in one rectangle, but in none all of whose cells are left.
        by_cell = least_parting(STEPS, 1)[2]
        self.assertEqual(by_cell[0], "cell")
        self.assertIs(is_parting_paper(STEPS, 1, 3, by_cell), True)
        self.assertIs(is_parting_paper(STEPS, 1, 3, ("fool", ((0, 0), (0, 1), (1, 2)))), False)

    def test_all_grids_of_two_rows_and_three_columns(self):
        for numbers in itertools.product(range(2), repeat=6):
            grid = (numbers[:3], numbers[3:])
            answer = self.told(grid, 1)
            self.assertIs(is_least_parting(grid, 1, answer), True)

    def test_four_rows_and_columns(self):
        dice = Dice(181)
        for _ in range(6):
            grid = tuple(tuple(int(dice.below(4) > 0) for _ in range(4)) for _ in range(4))
            for number in (0, 1):
                answer = self.told(grid, number)
                self.assertIs(is_least_parting(grid, number, answer), True)

    def test_facts(self):
        dice = Dice(182)
        for grid in some_grids(dice, 25, 4):
            numbers = sorted({one for line in grid for one in line})
            counts = [least_parting(grid, number)[0] for number in numbers]
            self.assertLessEqual(sum(counts), 2 ** least_said(grid)[0])
            for number, count in zip(numbers, counts):
                self.assertGreaterEqual(count, least_cover(grid, number)[0])
                self.assertLessEqual(count, min(len(grid), len(grid[0]), len(cells_with(grid, number))))


if __name__ == "__main__":
    unittest.main()
