"""[55], how: exact exchange steps, against sums of fractions."""

import unittest
from fractions import Fraction

from saidbetween.exchange import begun_game, cell_numbers, know, lot_numbers
from tests.helpers import Case, Dice


class ExchangeTest(Case):

    def check(self, game, lots):
        """Neither the numbers of the cells nor those of the lots can be bettered."""
        self.assertGreater(game.divisor, 0)
        cells = [Fraction(number, game.divisor) for number in cell_numbers(game)]
        self.assertTrue(all(number >= 0 for number in cells))
        for lot in lots:
            inside = [number for cell, number in enumerate(cells) if lot >> cell & 1]
            self.assertLessEqual(sum(inside), 1)
        worth = {lot: Fraction(number, game.divisor) for lot, number in lot_numbers(game)}
        self.assertTrue(all(number > 0 for number in worth.values()))
        for cell in range(len(cells)):
            self.assertGreaterEqual(sum(number for lot, number in worth.items()
                                        if lots[lot] >> cell & 1), 1)
        self.assertEqual(sum(cells), sum(worth.values()))
        self.assertEqual(Fraction(game.goal[-1], game.divisor), sum(cells))

    def test_drawn_lots(self):
        dice = Dice(231)
        wholes = set()
        for count in (1, 2, 3, 5, 9, 16):
            for _ in range(12):
                kinds = [dice.below(1 + dice.below(count)) for _ in range(count)]
                lots = [sum(1 << cell for cell in range(count) if kinds[cell] == kind)
                        for kind in sorted(set(kinds))]
                game = begun_game(count, lots)
                self.check(game, lots)
                for _ in range(14):
                    lots.append(dice.below(2 ** count))
                    know(game, lots[-1])
                    self.check(game, lots)
                wholes.add(Fraction(game.goal[-1], game.divisor).denominator)
        self.assertGreater(len(wholes), 5)


if __name__ == "__main__":
    unittest.main()
