"""Each example of the document, in its order, over all parts of the program."""

import unittest

from saidbetween.asks import asks_of, is_tree_for, least_asks
from saidbetween.both import both_bound, by_both_covers
from saidbetween.bounds import neighbour_bound, neighbours
from saidbetween.certificates import formula_of_asks, most_of, sums
from saidbetween.chances import best_speech, is_worth, worth
from saidbetween.covers import greatest_rectangles, is_cover_paper, least_cover
from saidbetween.depths import is_book, is_least_bits, least_bits, talked
from saidbetween.errors import BadText
from saidbetween.few import best_of, leaves_by_bits
from saidbetween.formulas import depth_of, layers_of, leaves_of, tells, value_of
from saidbetween.hands import is_speech, speech_bits
from saidbetween.inside import put_in
from saidbetween.layers import fewest_by_layers, layers_from
from saidbetween.partings import least_parting
from saidbetween.products import is_put_paper, put_paper
from saidbetween.questions import all_signs, first_unparted, question_of, rising_signs, turned
from saidbetween.ranks import rank_bound, rank_modulo
from saidbetween.rising import kernel_of, led_talk, rising_formula
from saidbetween.saying import greatest_fool, grid_rank, least_said, said_bound
from saidbetween.sessions import played
from saidbetween.sizes import is_size_book, least_leaves
from saidbetween.talks import bits_of, ends_of, is_talk, pairs_at, said, turns_of
from saidbetween.texts import formula_text, read_formula
from saidbetween.turning import talk_of
from saidbetween.weights import heaviest, weight_bound
from tests.helpers import Case

SIGNS = ((0, 0), (0, 1), (1, 0), (1, 1))
QUESTION = (2, SIGNS, (1, 2), (0, 3))
FORMULA = ("or", ("and", (0, 1), (1, 0)), ("and", (0, 0), (1, 1)))
TALK = ("yes", (1,), ("no", (0,), (0, 1), (1, 0)), ("no", (0,), (1, 1), (0, 0)))
BOOK = ((0, (1,), (0, 3)), (0, (1, 2), (0,)), (1, (1, 2), (0, 3)))
GRID = ((0, 1), (1, 0))
CORNER = ((0, 0), (0, 1))


class ExamplesTest(Case):

    def test_point_8(self):
        self.assertEqual(question_of(2, all_signs(2), (0, 1, 1, 0)), QUESTION)
        self.assertIs(tells(QUESTION, FORMULA), True)
        self.assertEqual((depth_of(QUESTION, FORMULA), leaves_of(QUESTION, FORMULA)), (2, 4))
        self.assertIs(is_talk(QUESTION, TALK), True)
        self.assertEqual(talk_of(QUESTION, FORMULA)[:3], TALK[:3])
        self.assertIs(is_book(QUESTION, 1, BOOK), True)
        self.assertIs(is_least_bits(QUESTION, (2, TALK, BOOK)), True)

    def test_part_a(self):
        self.assertEqual(turned(QUESTION), (2, SIGNS, (0, 3), (1, 2)))
        self.assertEqual(rising_signs(2), ((0, 1), (1, 1)))
        self.assertEqual(first_unparted((2, rising_signs(2), (1, 2), (0, 3))), (1, 3))

    def test_part_b(self):
        formula = ("or", ("and", (0, 1), (1, 0)), (1, 1))
        self.assertEqual(depth_of(QUESTION, formula), 2)
        self.assertEqual(leaves_of(QUESTION, formula), 3)
        self.assertEqual(layers_of(QUESTION, formula), 2)
        self.assertEqual(formula_text(QUESTION, formula).split("\n"), [
            "formula", "  or", "    and", "      sign 0 1", "      sign 1 0", "    sign 1 1"])
        self.refused(BadText, {"line": 0, "word": 5}, read_formula, QUESTION, "formula or sign 0 1 )")

    def test_part_c(self):
        self.assertEqual(said(QUESTION, TALK, 2, 3), ((("yes", 0), ("no", 0)), (0, 0)))
        self.assertEqual([end[:2] for end in pairs_at(QUESTION, TALK)],
                         [((1,), (0,)), ((1,), (3,)), ((2,), (0,)), ((2,), (3,))])
        self.assertEqual((bits_of(QUESTION, TALK), ends_of(QUESTION, TALK), turns_of(QUESTION, TALK)),
                         (2, 4, 2))

    def test_part_d(self):
        self.assertEqual(talk_of(QUESTION, FORMULA), (
            "yes", (1,), ("no", (0,), (0, 1), (1, 0)), ("no", (3,), (0, 0), (1, 1))))

    def test_parts_e_and_f(self):
        self.assertEqual(least_bits(QUESTION)[0], 2)
        self.assertEqual(talked(QUESTION), (4, 8, 9))
        self.assertEqual(least_leaves(QUESTION)[0], 4)
        self.assertEqual(best_of(QUESTION, 2)[0], 4)
        self.assertEqual(leaves_by_bits(QUESTION), ((2, 4),))
        self.assertIs(is_size_book(QUESTION, 4, (
            (2, (1,), (0, 3)), (2, (1, 2), (0,)), (2, (1, 2), (3,)), (2, (2,), (0, 3)),
            (4, (1, 2), (0, 3)))), True)

    def test_part_g(self):
        self.assertEqual(fewest_by_layers(QUESTION, 1, "yes")[:2], (0, None))
        for hand in ("yes", "no"):
            self.assertEqual(fewest_by_layers(QUESTION, 2, hand)[0], 4)
        self.assertEqual(layers_from(QUESTION, TALK, "yes"), 2)

    def test_part_h(self):
        values = (0, 0, 0, 1, 0, 1, 1, 1)
        question = question_of(3, rising_signs(3), values)
        self.assertEqual(kernel_of(question)[2:], ((3, 5, 6), (1, 2, 4)))
        formula = rising_formula(3, values)
        self.assertEqual(formula, ("or", ("and", (0, 1), (1, 1)), (
            "or", ("and", (0, 1), (2, 1)), ("and", (1, 1), (2, 1)))))
        self.assertEqual(leaves_of(question, formula), 6)
        self.assertIs(value_of(question, formula, 5), True)
        self.assertEqual(led_talk(question, ("yes", (3,), (0, 1), (2, 1))), ("yes", (3, 7), (0, 1), (2, 1)))
        self.assertEqual(led_talk(question, ("no", (1,), (1, 1), (0, 1))), ("no", (0, 1), (1, 1), (0, 1)))

    def test_part_i(self):
        self.assertEqual(neighbours(QUESTION), ((1, 0), (1, 3), (2, 0), (2, 3)))
        self.assertEqual(neighbour_bound(QUESTION), (4, 1))
        ones = ((1, 1), (1, 1))
        self.assertEqual((heaviest(QUESTION, ones), weight_bound(QUESTION, ones)), (1, 4))
        matrix = ((1, 0), (0, 1))
        self.assertEqual((rank_modulo(2, matrix), rank_bound(QUESTION, 2, matrix)), (2, 2))

    def test_part_j(self):
        self.assertEqual(least_said(GRID)[0], 2)
        self.assertEqual(greatest_fool(GRID, 0), ((0, 0), (1, 1)))
        self.assertEqual(grid_rank(GRID, 0, 2), 2)
        self.assertEqual(said_bound(GRID, 2), (4, 2))
        self.assertEqual(greatest_fool(CORNER, 0), ((0, 1), (1, 0)))
        self.assertEqual(said_bound(CORNER, 2), (3, 2))

    def test_part_k(self):
        zeros = greatest_rectangles(GRID, 0)
        self.assertEqual(zeros, (((0,), (0,)), ((1,), (1,))))
        self.assertEqual(least_cover(GRID, 0)[0], 2)
        self.assertIs(is_cover_paper(GRID, 0, 2, ("fool", ((0, 0), (1, 1)))), True)
        speech = by_both_covers(GRID, zeros, least_cover(GRID, 1)[1])
        self.assertIs(is_speech(GRID, speech), True)
        self.assertEqual(both_bound(2, 2), (1 + 2) * 2 * 2)
        self.assertLessEqual(speech_bits(GRID, speech), 12)
        steps = ((1, 1, 0), (1, 1, 1), (0, 1, 1))
        self.assertEqual((least_cover(steps, 1)[0], least_parting(steps, 1)[0]), (2, 3))

    def test_part_l(self):
        values = (0, 0, 0, 1, 1, 0, 1, 1)
        tree = ("ask", 0, ("ask", 1, 1, 0), ("ask", 2, 1, 0))
        self.assertEqual(values, tuple(row >> (1 if row & 1 else 2) & 1 for row in range(8)))
        self.assertEqual(least_asks(3, values)[0], 2)
        self.assertIs(is_tree_for(3, values, tree), True)
        self.assertEqual(asks_of(3, tree), 2)
        self.assertEqual(sums(3, values), (0, 0, 0, 1, 1, -1, 0, 0))
        self.assertEqual(most_of(3, values), (2, 2, 2, 2, 2, 2))
        self.assertEqual(formula_of_asks(3, tree),
                         ("or", ("and", (0, 1), (1, 1)), ("and", (0, 0), (2, 1))))

    def test_part_m(self):
        self.assertEqual([worth(GRID, bits)[0] for bits in range(3)], [(1, 2), (1, 2), (1, 1)])
        self.assertEqual(best_speech(GRID, 1, (((1, 4), (1, 4)), ((1, 4), (1, 4))))[0], (1, 2))
        self.assertEqual([worth(CORNER, bits)[0] for bits in range(2)], [(1, 2), (2, 3)])
        mix = (((1, 3), ("row", (1,), 1, 0)), ((1, 3), ("column", (1,), 1, 0)), ((1, 3), 0))
        odds = (((0, 1), (1, 3)), ((1, 3), (1, 3)))
        self.assertIs(is_worth(CORNER, 1, ((2, 3), mix, odds)), True)

    def test_part_n(self):
        outer, inner = (2, (0, 1, 1, 0)), (2, (0, 0, 0, 1))
        many, values = put_in(outer, inner)
        self.assertEqual((many, values[7]), (4, 1))
        answer = put_paper(outer, inner)
        self.assertEqual(answer[0], 4)
        self.assertIs(is_put_paper(outer, inner, answer), True)
        self.assertEqual(least_asks(many, values)[0], 4)

    def test_part_o(self):
        state, answers = played(QUESTION, (("bits",), ("off", 3), ("bits",)))
        self.assertEqual(answers, (2, None, 1))
        self.assertIs(tells(state[0], ("or", (0, 1), (1, 1))), True)


if __name__ == "__main__":
    unittest.main()
