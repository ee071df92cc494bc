"""[50] to [52]: papers of one row, sums, the tree of certificates, a tree as a formula."""

import itertools
import unittest

from saidbetween.asks import asked, asks_of, is_tree_for, least_asks
from saidbetween.certificates import (
    blocks, certificate, certificate_tree, formula_of_asks, is_blocks, most_of, sums, turning_bits,
)
from saidbetween.errors import BadParameter, BadTree, TooGreat
from saidbetween.formulas import depth_of, first_wrong, need_formula
from saidbetween.questions import all_signs, question_of
from tests.helpers import (
    Case, Dice, formula_is_so, is_branch, STRANGE, subsets, things, Touchy,
)
from tests.test_asks import (
    long_one, MANY_REFUSALS, TABLE_REFUSALS, thrown_tree, TREE, TREE_REFUSALS, VALUES, way, wide_one,
)

ROW_REFUSALS = [(row, BadParameter, {"value": row})
                for row in (-1, 8, True, False, 1.0, "1", None, (1,), Touchy(), 10 ** 40)]


def tables(most_bits, drawn):
    """Every table of one to so many bits, and drawn ones up to six bits."""
    for many in range(1, most_bits + 1):
        for values in itertools.product((0, 1), repeat=2 ** many):
            yield many, values
    dice = Dice(201)
    for many, times in drawn:
        for _ in range(times):
            share = 1 + dice.below(9)
            yield many, tuple(int(dice.below(10) < share) for _ in range(2 ** many))


def special_tables(many):
    """Constant, parity, one row, most bits, the bit that two bits choose."""
    rows = range(2 ** many)
    yield (0,) * 2 ** many
    yield (1,) * 2 ** many
    yield tuple(bin(row).count("1") % 2 for row in rows)
    yield tuple(int(row == 1) for row in rows)
    yield tuple(int(2 * bin(row).count("1") > many) for row in rows)
    yield tuple(row >> (row % 2 * (many - 1)) & 1 for row in rows)


def flipped(row, bits):
    return row ^ sum(2 ** bit for bit in bits)


def fixes(many, values, row, bits):
    mask = sum(2 ** bit for bit in bits)
    return {values[other] for other in range(2 ** many) if other & mask == row & mask} == {values[row]}


def certificate_by_words(many, values, row):
    found = [bits for bits in subsets(range(many)) if fixes(many, values, row, bits)]
    least = min(map(len, found))
    return min(bits for bits in found if len(bits) == least)


def turning_sets(many, values, row):
    return [bits for bits in subsets(range(many)) if values[flipped(row, bits)] != values[row]]


def most_apart(sets):
    """The most of these sets of which no two have a common bit."""
    best = 0
    for at, one in enumerate(sets):
        best = max(best, 1 + most_apart([other for other in sets[at + 1:] if not set(one) & set(other)]))
    return best


def smallest(sets):
    """Those within which no other one lies: the most blocks are among these."""
    return [one for one in sets if not any(set(other) < set(one) for other in sets)]


class CertificateTest(Case):

    def test_by_all_sets_of_bits(self):
        for many, values in tables(3, [(4, 6), (5, 2), (6, 1)]):
            for row in range(2 ** many):
                self.assertEqual(certificate(many, values, row), certificate_by_words(many, values, row))

    def test_the_least_of_the_fewest(self):
        # Row 0 is fixed by the bits 1 and 2, or by 0 alone.
        self.assertEqual(certificate(3, (0, 1, 0, 1, 0, 1, 1, 1), 0), (0, 1))
        self.assertEqual(certificate(3, (0, 1, 0, 1, 0, 1, 1, 1), 1), (0,))
        self.assertEqual(certificate(3, (0, 1, 0, 1, 0, 1, 1, 1), 6), (1, 2))
        self.assertEqual(certificate(3, (0, 0, 0, 1, 0, 1, 1, 1), 7), (0, 1))
        self.assertEqual(certificate(6, (1,) * 64, 63), ())

    def test_six_bits(self):
        rows = range(64)
        self.assertEqual(certificate(6, tuple(bin(row).count("1") % 2 for row in rows), 5), tuple(range(6)))
        self.assertEqual(certificate(6, tuple(row >> 5 for row in rows), 17), (5,))


class TurningBitsTest(Case):

    def test_by_all_bits(self):
        for many, values in tables(3, [(4, 20), (5, 10), (6, 5)]):
            for row in range(2 ** many):
                wanted = tuple(bit for bit in range(many) if values[flipped(row, (bit,))] != values[row])
                self.assertEqual(turning_bits(many, values, row), wanted)


class BlocksTest(Case):

    def check(self, many, values, row, most):
        answer = blocks(many, values, row)
        count, found = answer
        self.assertEqual(count, most)
        self.assertEqual(len(found), count)
        for one in found:
            self.assertEqual(list(one), sorted(set(one)))
            self.assertIn(one, turning_sets(many, values, row))
        self.assertEqual(sum(map(len, found)), len(set().union(*found)))
        self.assertIs(is_blocks(many, values, row, answer), True)
        return answer

    def test_by_all_sets_of_bits(self):
        for many, values in tables(3, [(4, 6), (5, 2)]):
            for row in range(2 ** many):
                sets = turning_sets(many, values, row)
                self.check(many, values, row, most_apart(smallest(sets) if many > 3 else sets))

    def test_six_bits(self):
        dice = Dice(202)
        for values in [tuple(dice.below(2) for _ in range(64))] + list(special_tables(6)):
            for row in (0, 1, 21, 63):
                self.check(6, values, row, most_apart(smallest(turning_sets(6, values, row))))

    def test_judged_by_the_words(self):
        dice = Dice(203)
        seen = set()
        for many, values in tables(2, [(3, 20), (4, 10)]):
            for row in range(2 ** many):
                sets = turning_sets(many, values, row)
                most = most_apart(smallest(sets))
                all_sets = subsets(range(many))
                for _ in range(6):
                    some = tuple(all_sets[dice.below(len(all_sets))] if dice.below(3) == 0 or not sets
                                 else sets[dice.below(len(sets))] for _ in range(most))
                    wanted = all(one in sets for one in some) and (
                        sum(map(len, some)) == len(set().union(*some)))
                    self.assertIs(is_blocks(many, values, row, (most, some)), wanted)
                    self.assertIs(is_blocks(many, values, row, (most, some[::-1])), wanted)
                    seen.add((wanted, most))
        self.assertLessEqual({(True, 0), (True, 1), (True, 2), (True, 3), (False, 1), (False, 2)}, seen)

    def test_other_sets(self):
        # Row 0 turns with any two bits, or more.
        values = tuple(int(bin(row).count("1") > 1) for row in range(16))
        for found in (((0, 1), (2, 3)), ((2, 3), (0, 1)), ((0, 2), (1, 3)), ((0, 3), (1, 2))):
            self.assertIs(is_blocks(4, values, 0, (2, found)), True)
        for found in (((0, 1), (1, 2)), ((0, 1, 2), (3,)), ((0, 1),), ((0, 1), (2, 3), ()), ((0, 1), ()),
                      ((0, 1), (0, 1)), ((1, 0), (2, 3)), ((0, 1), (2, 2)), ((0, 1), (3, 2)), ((0, 1), (2, 4)),
                      ((0, 1), (-1, 2)), ((0, 1), (True, 2)), ((0, 1), [2, 3]), [(0, 1), (2, 3)],
                      ((False, 1), (2, 3)), ((0, 1), (2, 3.0)), ((0, 1), (2, Touchy()))):
            self.assertIs(is_blocks(4, values, 0, (2, found)), False)
        for count in (1, 3, 0, True, 2.0, "2", None, -1, (2,)):
            self.assertIs(is_blocks(4, values, 0, (count, ((0, 1), (2, 3)))), False)
        self.assertIs(is_blocks(4, values, 0, (1, ((0, 1),))), False)
        self.assertIs(is_blocks(4, values, 0, (1, ((0, 1, 2, 3),))), False)
        self.assertIs(is_blocks(1, (0, 1), 0, (1, ((0,),))), True)
        self.assertIs(is_blocks(1, (0, 1), 0, (True, ((0,),))), False)
        self.assertIs(is_blocks(1, (1, 1), 0, (0, ())), True)
        self.assertIs(is_blocks(1, (1, 1), 0, (False, ())), False)
        self.assertIs(is_blocks(1, (1, 1), 0, (0, [])), False)

    def test_values_of_any_kind(self):
        last = (0,) * 4 + (1,) * 4
        self.assertIs(is_blocks(3, last, 0, (1, ((2,),))), True)
        for value in [(1, ((2,),), 0), [1, ((2,),)], (1,), ((2,),), 1]:
            self.assertIs(is_blocks(3, last, 0, value), False)
        for value in STRANGE:
            self.assertIs(is_blocks(3, last, 0, value), False)
            self.assertIs(is_blocks(3, last, 0, (value, ((2,),))), False)
            self.assertIs(is_blocks(3, last, 0, (1, value)), False)
            self.assertIs(is_blocks(3, last, 0, (1, (value,))), False)
            self.assertIs(is_blocks(3, last, 0, (1, ((value,),))), False)
            self.assertIs(is_blocks(3, last, 0, (1, ((value, 2),))), False)
            self.assertIs(is_blocks(3, (1,) * 8, 0, value), False)


class RefusedTest(Case):

    def test_of_rows(self):
        for function in (certificate, turning_bits, blocks):
            self.check_calls(function, ("many", "values", "row"), (3, VALUES, 7),
                             [MANY_REFUSALS, TABLE_REFUSALS, ROW_REFUSALS])
        for value in ((2, ((1,), (0, 2))), None, Touchy()):
            self.check_calls(is_blocks, ("many", "values", "row", "value"), (3, VALUES, 7, value),
                             [MANY_REFUSALS, TABLE_REFUSALS, ROW_REFUSALS])

    def test_of_tables(self):
        for function in (most_of, sums, certificate_tree):
            self.check_calls(function, ("many", "values"), (3, VALUES), [MANY_REFUSALS, TABLE_REFUSALS])

    def test_seven_bits(self):
        for many in (7, 8):
            for values in ((0,) * 2 ** many, (0, 1) * 2 ** (many - 1)):
                for function in (most_of, sums, certificate_tree):
                    self.refused(TooGreat, {"most": 6}, function, many, values)
                for row in (0, 2 ** many - 1, -1, 2 ** many, True, Touchy()):
                    for function in (certificate, turning_bits, blocks):
                        self.refused(TooGreat, {"most": 6}, function, many, values, row)
                    self.refused(TooGreat, {"most": 6}, is_blocks, many, values, row, None)
        for row in (-1, 64, True, None):
            for function in (certificate, turning_bits, blocks):
                self.refused(BadParameter, {"value": row}, function, 6, (0, 1) * 32, row)
            self.refused(BadParameter, {"value": row}, is_blocks, 6, (0, 1) * 32, row, (0, ()))


class MostTest(Case):

    def by_words(self, many, values):
        rows = range(2 ** many)
        sizes = [len(certificate_by_words(many, values, row)) for row in rows]
        added = sums(many, values)
        return (
            least_asks(many, values)[0],
            max([sizes[row] for row in rows if values[row] == 0], default=0),
            max([sizes[row] for row in rows if values[row] == 1], default=0),
            max(most_apart(smallest(turning_sets(many, values, row))) for row in rows),
            max(len(turning_bits(many, values, row)) for row in rows),
            max([bin(row).count("1") for row in rows if added[row] != 0], default=0),
        )

    def check(self, many, values):
        found = most_of(many, values)
        self.assertEqual(found, self.by_words(many, values))
        fewest, zeros, ones, most_blocks, turns, degree = found
        self.assertLessEqual(turns, most_blocks)
        self.assertLessEqual(most_blocks, max(zeros, ones))
        self.assertLessEqual(max(zeros, ones), fewest)
        self.assertLessEqual(degree, fewest)
        self.assertLessEqual(fewest, zeros * ones)

    def test_every_table_of_one_to_three_bits_and_drawn_ones(self):
        for many, values in tables(3, [(4, 6), (5, 2), (6, 1)]):
            self.check(many, values)

    def test_special_tables(self):
        for many in (1, 2, 4, 6):
            for values in special_tables(many):
                self.check(many, values)
            self.assertEqual(most_of(many, (0,) * 2 ** many), (0, 0, 0, 0, 0, 0))
            self.assertEqual(most_of(many, (1,) * 2 ** many), (0, 0, 0, 0, 0, 0))

    def test_facts_of_each_row(self):
        for many, values in tables(3, [(4, 10), (5, 3)]):
            fewest = least_asks(many, values)[0]
            for row in range(2 ** many):
                numbers = (len(turning_bits(many, values, row)), blocks(many, values, row)[0],
                           len(certificate(many, values, row)), fewest)
                self.assertEqual(list(numbers), sorted(numbers))

    def test_example(self):
        self.assertEqual(most_of(3, VALUES), (2, 2, 2, 2, 2, 2))


class SumsTest(Case):

    def test_by_the_words(self):
        for many, values in tables(3, [(4, 30), (5, 10), (6, 10)]):
            found = sums(many, values)
            self.assertEqual(len(found), 2 ** many)
            for row in range(2 ** many):
                within = sum(found[other] for other in range(2 ** many) if other & row == other)
                self.assertEqual(within, values[row])

    def test_example(self):
        self.assertEqual(sums(3, VALUES), (0, 0, 0, 1, 1, -1, 0, 0))
        self.assertEqual(sums(1, (1, 0)), (1, -1))
        self.assertEqual(sums(2, (0, 1, 1, 0)), (0, 1, 1, -2))


def tree_by_rule(many, values):
    """The tree of certificates, by the words of [51], ask by ask."""
    def tree(alive, told, left):
        kinds = {values[row] for row in alive}
        if len(kinds) == 1:
            return kinds.pop()
        if not left:
            least = min(row for row in alive if values[row] == 1)
            left = [bit for bit in certificate_by_words(many, values, least) if bit not in told]
        bit = left[0]
        with_bit = [row for row in alive if row // 2 ** bit % 2 == 1]
        without = [row for row in alive if row // 2 ** bit % 2 == 0]
        return ("ask", bit, tree(with_bit, told + [bit], left[1:]), tree(without, told + [bit], left[1:]))
    return tree(list(range(2 ** many)), [], [])


class CertificateTreeTest(Case):

    def check(self, many, values):
        tree = certificate_tree(many, values)
        self.assertEqual(tree, tree_by_rule(many, values))
        self.assertIs(is_tree_for(many, values, tree), True)
        _, zeros, ones, _, _, _ = most_of(many, values)
        self.assertLessEqual(asks_of(many, tree), zeros * ones)
        for row in range(2 ** many):
            told = [bit for bit, _ in asked(many, tree, row)[0]]
            self.assertEqual(len(told), len(set(told)))

    def test_by_the_rule(self):
        for many, values in tables(3, [(4, 12), (5, 4), (6, 2)]):
            self.check(many, values)
        for many in (4, 6):
            for values in special_tables(many):
                self.check(many, values)

    def test_asked_whatever_the_answers(self):
        # Row 1 of 1 has the certificate (0, 1); the bit 1 is asked though the bit 0 is 0.
        self.assertEqual(certificate(3, VALUES, 3), (0, 1))
        self.assertEqual(certificate_tree(3, VALUES), (
            "ask", 0, ("ask", 1, 1, 0), ("ask", 1, ("ask", 2, 1, 0), ("ask", 2, 1, 0))))
        self.assertEqual(certificate_tree(2, (0, 1, 1, 1)), ("ask", 0, 1, ("ask", 1, 1, 0)))
        for end in (0, 1):
            self.assertEqual(certificate_tree(6, (end,) * 64), end)


def ends_in(tree):
    return ends_in(tree[2]) | ends_in(tree[3]) if is_branch(tree) else {tree}


def formula_by_words(tree):
    """[52], case by case."""
    _, bit, first, second = tree
    firsts, seconds = ends_in(first), ends_in(second)
    if len(firsts) == 1 and len(seconds) == 1:
        return (bit, 1) if firsts == {1} else (bit, 0)
    if len(firsts) == 1:
        if firsts == {1}:
            return ("or", (bit, 1), formula_by_words(second))
        return ("and", (bit, 0), formula_by_words(second))
    if len(seconds) == 1:
        if seconds == {1}:
            return ("or", (bit, 0), formula_by_words(first))
        return ("and", (bit, 1), formula_by_words(first))
    return ("or", ("and", (bit, 1), formula_by_words(first)), ("and", (bit, 0), formula_by_words(second)))


def depth_in(formula):
    return 1 + max(map(depth_in, formula[1:])) if formula[0] in ("or", "and") else 0


class FormulaTest(Case):

    def check(self, many, tree):
        formula = formula_of_asks(many, tree)
        self.assertEqual(formula, formula_by_words(tree))
        for row in range(2 ** many):
            self.assertIs(formula_is_so(formula, row), way(tree, row)[1] == 1)
        self.assertLessEqual(depth_in(formula), 2 * asks_of(many, tree))
        return formula

    def test_drawn_trees(self):
        dice = Dice(204)
        settled = again = 0
        for many in (1, 2, 3, 5, 8):
            for _ in range(60):
                tree = thrown_tree(dice, many, 1 + dice.below(14))
                if len(ends_in(tree)) == 1:
                    self.refused(BadParameter, {"value": tree}, formula_of_asks, many, tree)
                    settled += 1
                else:
                    formula = self.check(many, tree)
                    self.assertIs(need_formula((many, all_signs(many), (0,), (1,)), formula), formula)
                    again += many < 3
        self.assertTrue(settled > 10 and again > 50)

    def test_word_by_word(self):
        deep = ("ask", 1, 1, 0)
        for tree, wanted in (
            (("ask", 2, 1, 0), (2, 1)), (("ask", 2, 0, 1), (2, 0)),
            (("ask", 2, 1, deep), ("or", (2, 1), (1, 1))), (("ask", 2, 0, deep), ("and", (2, 0), (1, 1))),
            (("ask", 2, deep, 1), ("or", (2, 0), (1, 1))), (("ask", 2, deep, 0), ("and", (2, 1), (1, 1))),
            (("ask", 2, deep, ("ask", 0, 0, 1)), ("or", ("and", (2, 1), (1, 1)), ("and", (2, 0), (0, 0)))),
            (("ask", 2, ("ask", 0, 1, ("ask", 1, 1, 1)), ("ask", 0, 0, 0)), (2, 1)),
            (("ask", 2, ("ask", 0, 0, 0), deep), ("and", (2, 0), (1, 1))),
            (("ask", 1, deep, 0), ("and", (1, 1), (1, 1))),
            (TREE, ("or", ("and", (0, 1), (1, 1)), ("and", (0, 0), (2, 1)))),
        ):
            self.assertEqual(self.check(3, tree), wanted)

    def test_great_trees(self):
        tree = wide_one(300)
        self.refused(BadParameter, {"value": tree}, formula_of_asks, 1, tree)
        half = ("ask", 0, ("ask", 1, 1, 0), ("ask", 1, 0, 1))
        for _ in range(6):
            half = ("ask", 0, half, half)
        formula = self.check(2, half)
        self.refused(TooGreat, {"most": 400}, need_formula, (2, all_signs(2), (0,), (1,)), formula)
        for side in (1, 2):
            deep = long_one(59, side, ("ask", 1, 1, 0), ("ask", 1, 0, 1))
            formula = self.check(2, deep)
            self.assertGreater(depth_in(formula), 60)
            self.refused(TooGreat, {"most": 60}, need_formula, (2, all_signs(2), (0,), (1,)), formula)

    def test_of_least_trees(self):
        for many, values in tables(3, [(4, 10), (5, 4), (6, 2)]):
            if len(set(values)) == 2:
                asks, tree, _ = least_asks(many, values)
                formula = formula_of_asks(many, tree)
                question = question_of(many, all_signs(many), values)
                self.assertIsNone(first_wrong(question, formula))
                self.assertLessEqual(depth_of(question, formula), 2 * asks)

    def test_settled_trees(self):
        for end in (0, 1):
            for tree in (end, ("ask", 0, end, end), ("ask", 0, ("ask", 1, end, end), end), wide_one(300, end)):
                self.refused(BadParameter, {"value": tree}, formula_of_asks, 2, tree)

    def test_refused_in_order(self):
        wrong = TREE_REFUSALS + [(tree, BadParameter, {"value": tree}) for tree in (
            0, 1, ("ask", 0, 1, 1), ("ask", 0, 0, ("ask", 2, 0, 0)))]
        self.check_calls(formula_of_asks, ("many", "tree"), (3, TREE), [MANY_REFUSALS, wrong])
        self.refused(BadTree, {"place": (3,)}, formula_of_asks, 3, ("ask", 0, 1, 2))
        self.refused(TooGreat, {"most": 600}, formula_of_asks, 3, wide_one(301))
        self.refused(TooGreat, {"most": 60}, formula_of_asks, 3, long_one(61, 1, 0))
        self.assertEqual(len(things(wide_one(300))), 599)


if __name__ == "__main__":
    unittest.main()
