"""The facts of the document, over all parts of the program, on drawn questions, grids, tables."""

import unittest
from fractions import Fraction

from saidbetween.asks import asked, asks_of, is_tree_for, least_asks
from saidbetween.both import both_bound, by_both_covers
from saidbetween.bounds import best_neighbours, neighbour_bound
from saidbetween.certificates import certificate_tree, formula_of_asks, most_of
from saidbetween.chances import worth
from saidbetween.covers import is_cover, least_cover
from saidbetween.depths import is_book, is_least_bits, least_bits, talked
from saidbetween.errors import NoTalk
from saidbetween.few import best_of, leaves_by_bits
from saidbetween.formulas import (
    depth_of, layers_of, leaves_of, need_formula, negated, tells, value_of,
)
from saidbetween.hands import bare_grid, cells_at, is_speech, speech_bits, turned_grid
from saidbetween.inside import put_formula, put_in, put_tree
from saidbetween.layers import fewest_by_layers, is_layer_book, layers_from
from saidbetween.partings import is_parting, least_parting
from saidbetween.products import long_row, put_paper
from saidbetween.questions import (
    all_signs, can_be, first_unparted, lesser, parted, question_of, rising_signs, turned,
)
from saidbetween.ranks import rank_bound
from saidbetween.rising import falling_formula, is_rising, kernel_of, led_talk, rising_formula
from saidbetween.saying import least_said, said_bound
from saidbetween.sessions import played
from saidbetween.sizes import is_size_book, least_leaves
from saidbetween.talks import (
    bits_of, ends_of, first_failing, is_lean, is_talk, need_talk, pairs_at, said, turns_of,
)
from saidbetween.texts import (
    formula_text, question_text, read_formula, read_question, read_talk, read_tree, talk_text, tree_text,
)
from saidbetween.turning import formula_of, lean_formula, lean_talk, talk_of
from saidbetween.weights import weight_bound
from tests.brute import can_questions, few_questions, Formulas
from tests.helpers import (
    Case, Dice, subsets, thrown_formula, thrown_question, thrown_talk,
)
from tests.test_hands import thrown_grid


def signs_in(thing):
    """The signs of a formula, the ends of a talk, in their order."""
    return signs_in(thing[-2]) + signs_in(thing[-1]) if type(thing[0]) is str else (thing,)


def turned_talk(talk):
    """The talk with "yes" and "no" exchanged and turned ends."""
    if type(talk[0]) is not str:
        return (talk[0], 1 - talk[1])
    hand = {"yes": "no", "no": "yes"}[talk[0]]
    return (hand, talk[1], turned_talk(talk[2]), turned_talk(talk[3]))


def rising_tables(dice, many, count):
    """Rising tables with 0 and 1: 1 for all rows above some drawn ones."""
    out = []
    while len(out) < count:
        least = [dice.below(2 ** many) for _ in range(1 + dice.below(3))]
        values = tuple(int(any(row & one == one for one in least)) for row in range(2 ** many))
        if 0 in values and 1 in values:
            out.append(values)
    return out


class QuestionFacts(Case):

    def test_part_a(self):
        dice = Dice(301)
        for _ in range(60):
            question = thrown_question(dice, 1 + dice.below(4))
            many, signs, yes, no = question
            other = turned(question)
            self.assertEqual(turned(other), question)
            self.assertIs(can_be(other), can_be(question))
            for sign in all_signs(many):
                self.assertIs(parted(question, sign, yes, no),
                              parted(other, (sign[0], 1 - sign[1]), no, yes))
            some = lesser(question, dice.some(yes, 1), dice.some(no, 1))
            if can_be(question):
                self.assertIs(can_be(some), True)
            self.assertIs(can_be((many, all_signs(many), yes, no)), True)
            rising = (many, rising_signs(many), yes, no)
            pairs = [(one, two) for one in yes for two in no if one & ~two == 0]
            self.assertEqual(first_unparted(rising), min(pairs, default=None))

    def test_texts(self):
        dice = Dice(302)
        for _ in range(30):
            question = thrown_question(dice, 1 + dice.below(4), every_sign=True)
            many, signs, _, _ = question
            formula = thrown_formula(dice, signs, 1 + dice.below(9))
            talk = thrown_talk(dice, question, 1 + dice.below(9))
            self.assertEqual(read_question(question_text(question)), question)
            self.assertEqual(read_formula(question, formula_text(question, formula)), formula)
            self.assertEqual(read_talk(question, talk_text(question, talk)), talk)
            values = tuple(int(value_of(question, formula, row)) for row in range(2 ** many))
            tree = least_asks(many, values)[1]
            self.assertEqual(read_tree(many, tree_text(many, tree)), tree)

    def test_part_b(self):
        dice = Dice(303)
        for _ in range(40):
            question = thrown_question(dice, 1 + dice.below(4), every_sign=True)
            formula = thrown_formula(dice, question[1], 1 + dice.below(12))
            other, back = negated(question, formula), turned(question)
            self.assertIs(need_formula(back, other), other)
            self.assertEqual(negated(back, other), formula)
            self.assertIs(tells(back, other), tells(question, formula))
            for row in range(2 ** question[0]):
                self.assertIs(value_of(back, other, row), not value_of(question, formula, row))
            for counted in (depth_of, leaves_of, layers_of):
                self.assertEqual(counted(back, other), counted(question, formula))
            self.assertLessEqual(leaves_of(question, formula), 2 ** depth_of(question, formula))
            rising = (question[0], rising_signs(question[0])) + question[2:]
            formula = thrown_formula(dice, rising[1], 1 + dice.below(12))
            values = tuple(int(value_of(rising, formula, row)) for row in range(2 ** question[0]))
            self.assertIs(is_rising(question[0], values), True)

    def test_part_c(self):
        dice = Dice(304)
        for _ in range(40):
            question = thrown_question(dice, 1 + dice.below(3), every_sign=True)
            _, _, yes, no = question
            talk = thrown_talk(dice, question, 1 + dice.below(10))
            ends = pairs_at(question, talk)
            for one in yes:
                for two in no:
                    there = [end for end in ends if one in end[0] and two in end[1]]
                    self.assertEqual(len(there), 1)
                    self.assertEqual(said(question, talk, one, two)[1], there[0][2])
            telling = all(parted(question, sign, a, b) for a, b, sign in ends if a and b)
            self.assertIs(is_talk(question, talk), telling)
            self.assertIs(first_failing(question, talk) is None, telling)
            self.assertLessEqual(turns_of(question, talk), bits_of(question, talk))
            self.assertLessEqual(ends_of(question, talk), 2 ** bits_of(question, talk))
            back, other = turned(question), turned_talk(talk)
            self.assertIs(need_talk(back, other), other)
            for function in (bits_of, ends_of, turns_of, is_lean, is_talk):
                self.assertEqual(function(back, other), function(question, talk))


class TurningFacts(Case):

    def told_formulas(self, dice, count):
        out = []
        while len(out) < count:
            many = 1 + dice.below(4)
            formula = thrown_formula(dice, all_signs(many), 1 + dice.below(12))
            rows = range(2 ** many)
            whole = (many, all_signs(many), (0,), (1,))
            yes = tuple(row for row in rows if value_of(whole, formula, row))
            no = tuple(row for row in rows if row not in yes)
            if yes and no:
                out.append(((many, all_signs(many), dice.some(yes, 1), dice.some(no, 1)), formula))
        return out

    def test_formulas_are_talks(self):
        for question, formula in self.told_formulas(Dice(305), 50):
            talk = talk_of(question, formula)
            self.assertIs(is_talk(question, talk), True)
            self.assertEqual(bits_of(question, talk), depth_of(question, formula))
            self.assertEqual(ends_of(question, talk), leaves_of(question, formula))
            self.assertEqual(signs_in(talk), signs_in(formula))
            if is_lean(question, talk):
                self.assertEqual(formula_of(question, talk), formula)

    def test_lean_talks_are_formulas(self):
        for question, formula in self.told_formulas(Dice(306), 50):
            talk = talk_of(question, formula)
            told = formula_of(question, talk)
            self.assertIs(tells(question, told), True)
            self.assertLessEqual(depth_of(question, told), bits_of(question, talk))
            self.assertLessEqual(leaves_of(question, told), ends_of(question, talk))
            lean = lean_talk(question, talk)
            self.assertIs(is_lean(question, lean), True)
            self.assertIs(is_talk(question, lean), True)
            self.assertEqual(lean_talk(question, lean), lean)
            self.assertEqual(formula_of(question, lean), told)
            self.assertEqual(depth_of(question, told), bits_of(question, lean))
            self.assertEqual(signs_in(told), signs_in(lean))
            least = lean_formula(question, formula)
            self.assertIs(tells(question, least), True)
            self.assertIs(is_lean(question, talk_of(question, least)), True)
            self.assertEqual(lean_formula(question, least), least)


class LeastFacts(Case):

    def test_bits_and_leaves(self):
        dice = Dice(307)
        for question in can_questions(dice, 25, 7):
            many, signs, yes, no = question
            bits, talk, book = least_bits(question)
            leaves, lean, size_book = least_leaves(question)
            self.assertEqual(bits, Formulas(question).least_depth())
            self.assertIs(is_book(question, bits - 1, book) if bits else book == (), True)
            self.assertIs(is_size_book(question, leaves, size_book), True)
            self.assertIs(is_lean(question, lean), True)
            self.assertEqual(leaves_of(question, formula_of(question, lean)), leaves)
            self.assertTrue(bits < leaves <= min(len(yes) * len(no), 2 ** bits))
            # No talk of so few bits tells the lots of an entry.
            for told, a, b in book[:6]:
                self.assertGreater(least_bits((many, signs, a, b))[0]
                                   if can_be((many, signs, a, b)) else told + 1, told)
            some = lesser(question, dice.some(yes, 1), dice.some(no, 1))
            back = turned(question)
            more = (many, all_signs(many), yes, no)
            for other, same in ((some, False), (more, False), (back, True)):
                for now, then in ((least_bits(other)[0], bits), (least_leaves(other)[0], leaves)):
                    self.assertTrue(now == then if same else now <= then)
            counts = talked(question)
            self.assertEqual(len(counts), bits + 1)
            self.assertEqual(counts[-1], (2 ** len(yes) - 1) * (2 ** len(no) - 1))

    def test_parts_of_a_question(self):
        for question in can_questions(Dice(308), 20, 7):
            many, signs, yes, no = question
            if len(yes) > 1:
                parts = [(many, signs, yes[:1], no), (many, signs, yes[1:], no)]
                self.assertLessEqual(least_bits(question)[0],
                                     1 + max(least_bits(part)[0] for part in parts))

    def test_few_bits_and_layers(self):
        for question in can_questions(Dice(309), 12, 6):
            bits, leaves = least_bits(question)[0], least_leaves(question)[0]
            pairs = leaves_by_bits(question)
            self.assertEqual((pairs[0][0], pairs[-1][1]), (bits, leaves))
            told = [best_of(question, count) for count in range(bits, bits + 4)]
            self.assertIsNone(best_of(question, bits - 1) if bits else None)
            self.assertEqual([one[0] for one in told], sorted([one[0] for one in told], reverse=True))
            rows = len(question[2]) + len(question[3])
            for hand, other in (("yes", "no"), ("no", "yes")):
                last = 10 ** 9
                for layers in range(1, 7):
                    fewest, talk, book = fewest_by_layers(question, layers, hand)
                    self.assertIs(is_layer_book(question, layers, hand, fewest, book), True)
                    self.assertLessEqual(fewest or 10 ** 9, last)
                    last = fewest or 10 ** 9
                    if fewest:
                        self.assertLessEqual(layers_from(question, talk, hand), layers)
                        more = fewest_by_layers(question, min(layers + 1, 6), other)[0]
                        self.assertTrue(0 < more <= fewest or layers == 6)
                    self.assertTrue(fewest > 0 or layers == 1)
                    if layers >= rows - 1:
                        self.assertEqual(fewest, leaves)

    def test_bounds_for_leaves(self):
        dice = Dice(310)
        for question in can_questions(dice, 25, 8):
            leaves = least_leaves(question)[0]
            best, a, b = best_neighbours(question)
            self.assertLessEqual(Fraction(*neighbour_bound(question)), Fraction(*best))
            self.assertEqual(neighbour_bound(lesser(question, a, b)), best)
            self.assertLessEqual(Fraction(*best), leaves)
            weights = tuple(tuple(dice.below(9) - 3 for _ in question[3]) for _ in question[2])
            self.assertLessEqual(weight_bound(question, weights), leaves)
            matrix = tuple(tuple(dice.below(5) for _ in question[3]) for _ in question[2])
            self.assertLessEqual(rank_bound(question, 5, matrix), leaves)

    def test_rising_questions(self):
        dice = Dice(311)
        for values in rising_tables(dice, 3, 12):
            question = question_of(3, rising_signs(3), values)
            kernel = kernel_of(question)
            self.assertEqual(kernel_of(kernel), kernel)
            for formula in (rising_formula(3, values), falling_formula(3, values)):
                self.assertIs(tells(question, formula), True)
                self.assertIs(tells(kernel, formula), True)
            for function in (least_bits, least_leaves):
                number, talk, _ = function(kernel)
                led = led_talk(question, talk)
                self.assertIs(is_talk(question, led), True)
                self.assertEqual((bits_of(question, led), ends_of(question, led)),
                                 (bits_of(kernel, talk), ends_of(kernel, talk)))
                self.assertEqual(function(question)[0], number)

    def test_no_talk(self):
        dice = Dice(312)
        unparted = 0
        for question in few_questions(dice, 60, 6):
            pair = first_unparted(question)
            if pair is not None:
                unparted += 1
                for function in (least_bits, least_leaves, talked, leaves_by_bits):
                    self.refused(NoTalk, {"pair": pair}, function, question)
                self.assertIs(is_least_bits(question, (0, (0, 1), ())), False)
        self.assertGreater(unparted, 10)


class GridFacts(Case):

    def test_speeches_and_bounds(self):
        dice = Dice(313)
        for _ in range(25):
            grid = thrown_grid(dice, limit=2 + dice.below(3), most=4)
            bits, speech, _ = least_said(grid)
            self.assertIs(is_speech(grid, speech), True)
            for other in (turned_grid(grid), bare_grid(grid)):
                self.assertEqual(least_said(other)[0], bits)
            ends, least = said_bound(grid, 7)
            self.assertLessEqual(least, bits)
            self.assertLessEqual(ends, 2 ** bits)
            told = cells_at(grid, speech)
            numbers = sorted({one for line in grid for one in line})
            counts = []
            for number in numbers:
                parts = tuple(end[:2] for end in told if end[2] == number and end[0] and end[1])
                self.assertIs(is_parting(grid, number, parts), True)
                self.assertIs(is_cover(grid, number, parts), True)
                counts.append(least_parting(grid, number)[0])
                self.assertLessEqual(least_cover(grid, number)[0], counts[-1])
                self.assertLessEqual(counts[-1], len(parts))
            self.assertLessEqual(sum(counts), 2 ** bits)
            shares = [Fraction(*worth(grid, count)[0]) for count in range(3)]
            for count, share in enumerate(shares):
                self.assertEqual(share == 1, bits <= count)
            if set(numbers) <= {0, 1}:
                zeros, ones = [least_cover(grid, number)[1] for number in (0, 1)]
                both = by_both_covers(grid, zeros, ones)
                self.assertIs(is_speech(grid, both), True)
                self.assertTrue(bits <= speech_bits(grid, both) <= both_bound(len(zeros), len(ones)))

    def test_grids_of_questions(self):
        """Two hands who know a row each and want a sign that parts them name one of a grid."""
        for question in can_questions(Dice(314), 20, 6):
            many, signs, yes, no = question
            grid = tuple(tuple(min(at for at, sign in enumerate(signs)
                                   if parted(question, sign, (one,), (two,))) for two in no)
                         for one in yes)
            self.assertLessEqual(least_bits(question)[0], least_said(grid)[0])


class TableFacts(Case):

    def test_asks(self):
        dice = Dice(315)
        for _ in range(25):
            many = 1 + dice.below(4)
            values = tuple(dice.below(2) for _ in range(2 ** many))
            asks, tree, _ = least_asks(many, values)
            fewest, zeros, ones, most_blocks, turns, degree = most_of(many, values)
            self.assertEqual(fewest, asks)
            self.assertTrue(turns <= most_blocks <= max(zeros, ones) <= asks)
            self.assertTrue(degree <= asks <= zeros * ones)
            by_certificates = certificate_tree(many, values)
            self.assertIs(is_tree_for(many, values, by_certificates), True)
            self.assertTrue(asks <= asks_of(many, by_certificates) <= zeros * ones)
            if 0 in values and 1 in values:
                question = question_of(many, all_signs(many), values)
                for told in (tree, by_certificates):
                    formula = formula_of_asks(many, told)
                    self.assertIs(tells(question, formula), True)
                    self.assertLessEqual(depth_of(question, formula), 2 * asks_of(many, told))
                if len(question[2]) + len(question[3]) <= 8:
                    self.assertLessEqual(least_bits(question)[0], 2 * asks)

    def test_tables_put_in(self):
        dice = Dice(316)
        for many, inner_many in ((1, 2), (2, 1), (2, 2), (3, 2), (2, 3)):
            outer = (many, tuple(dice.below(2) for _ in range(2 ** many)))
            inner = (inner_many, tuple(dice.below(2) for _ in range(2 ** inner_many)))
            total, values = put_in(outer, inner)
            asks, tree, book, inner_book = put_paper(outer, inner)
            self.assertEqual(least_asks(total, values)[0], asks)
            put = put_tree(many, least_asks(*outer)[1], inner_many, least_asks(*inner)[1])
            for one in (tree, put, least_asks(total, values)[1]):
                self.assertIs(is_tree_for(total, values, one), True)
                row = long_row(outer, inner, book, inner_book, one)
                self.assertGreaterEqual(len({bit for bit, _ in asked(total, one, row)[0]}), asks)
            if len(set(outer[1])) == len(set(inner[1])) == len(set(values)) == 2:
                first = formula_of_asks(many, least_asks(*outer)[1])
                second = formula_of_asks(inner_many, least_asks(*inner)[1])
                whole = put_formula(many, first, inner_many, second)
                question = question_of(total, all_signs(total), values)
                self.assertIs(tells(question, whole), True)

    def test_sessions(self):
        dice = Dice(317)
        for question in can_questions(dice, 15, 7):
            state, answers = played(question, (("bits",), ("leaves",)))
            self.assertEqual(answers, (least_bits(question)[0], least_leaves(question)[0]))
            self.assertEqual(state, (question, ()))

    def test_subsets_of_signs(self):
        """With more signs no more bits and no more leaves are needed."""
        question = (2, all_signs(2), (1, 2), (0, 3))
        for signs in subsets(all_signs(2)):
            some = (2, signs) + question[2:]
            if can_be(some):
                self.assertGreaterEqual(least_bits(some)[0], 2)
                self.assertGreaterEqual(least_leaves(some)[0], 4)


if __name__ == "__main__":
    unittest.main()
