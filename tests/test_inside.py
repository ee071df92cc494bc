"""[56], [57]: tables, formulas and trees put into others."""

import itertools
import unittest

from saidbetween.asks import asked, asks_of, is_tree_for, least_asks, need_tree
from saidbetween.errors import BadFormula, BadParameter, BadTable, BadTree, TooGreat
from saidbetween.formulas import need_formula
from saidbetween.inside import put_formula, put_in, put_tree
from saidbetween.questions import all_signs
from tests.helpers import (
    Case, chain, Dice, formula_is_so, full, is_branch, STRANGE, things, thrown_formula, Touchy,
)
from tests.test_asks import long_one, MANY_REFUSALS, thrown_tree, TREE_REFUSALS, way, wide_one

XOR = (2, (0, 1, 1, 0))
AND = (2, (0, 0, 0, 1))

WRONG_TABLES = [
    (None, ()), ((), ()), ((1,), ()), ((1, (0, 1), 0), ()), ([1, (0, 1)], ()), (3, ()), ("ab", ()),
    (Touchy(), ()), ((0, (0,)), (0,)), ((9, (0, 1) * 256), (0,)), ((True, (0, 1)), (0,)), ((-1, ()), (0,)),
    ((1.0, (0, 1)), (0,)), ((None, None), (0,)), ((Touchy(), (0, 1)), (0,)), (((1,), (0, 1)), (0,)),
    ((1, [0, 1]), (1,)), ((1, (0,)), (1,)), ((1, (0, 1, 0)), (1,)), ((1, None), (1,)), ((2, (0, 1)), (1,)),
    ((1, ()), (1,)), ((1, "01"), (1,)), ((1, {0: 0, 1: 1}), (1,)), ((1, Touchy()), (1,)),
    ((1, (0, 2)), (1, 1)), ((1, (2, 2)), (1, 0)), ((1, (True, 1)), (1, 0)), ((1, (0, False)), (1, 1)),
    ((2, (0, 1, -1, None)), (1, 2)), ((2, (0, 1, 1, Touchy())), (1, 3)), ((1, (0.0, 1)), (1, 0)),
    ((1, ("0", 1)), (1, 0)), ((1, (None, 3)), (1, 0)),
]
PUT_REFUSALS = [(table, BadTable, {"place": place}) for table, place in WRONG_TABLES]

FORMULA_REFUSALS = [(formula, BadFormula, {"place": path}) for formula, path in (
    (None, ()), ((2, 0), ()), ((0, 2), ()), (("or", (0, 1)), ()), (("or", (0, 1), (True, 1)), (2,)),
    (["or", (0, 1), (0, 1)], ()), (("and", ("xor", (0, 1), (0, 1)), None), (1,)), (Touchy(), ()),
)]


def thrown_table(dice, many):
    return (many, tuple(dice.below(2) for _ in range(2 ** many)))


def small_sizes(most=8):
    return [(many, inner) for many in range(1, 9) for inner in range(1, 9) if many * inner <= most]


def row_told(row, many, inner):
    """The row of what a table says of the blocks of a row, by the words of [56]."""
    told = 0
    for place in range(many):
        block = row // 2 ** (place * inner[0]) % 2 ** inner[0]
        told += 2 ** place * inner[1][block]
    return told


def values_of(many, formula):
    return (many, tuple(int(formula_is_so(formula, row)) for row in range(2 ** many)))


def tree_values(many, tree):
    return (many, tuple(way(tree, row)[1] for row in range(2 ** many)))


class PutInTest(Case):

    def test_row_by_row(self):
        dice = Dice(241)
        for many, inner_many in small_sizes():
            for _ in range(3):
                outer, inner = thrown_table(dice, many), thrown_table(dice, inner_many)
                total, values = put_in(outer, inner)
                self.assertEqual(total, many * inner_many)
                self.assertEqual(len(values), 2 ** total)
                for row in range(2 ** total):
                    self.assertEqual(values[row], outer[1][row_told(row, many, inner)])

    def test_one_bit(self):
        dice = Dice(242)
        for many in range(1, 9):
            table = thrown_table(dice, many)
            self.assertEqual(put_in((1, (0, 1)), table), table)
            self.assertEqual(put_in(table, (1, (0, 1))), table)
            self.assertEqual(put_in((1, (1, 0)), table), (many, tuple(1 - value for value in table[1])))
            self.assertEqual(put_in(table, (1, (0, 0)))[1], table[1][:1] * 2 ** many)

    def test_example(self):
        many, values = put_in(XOR, AND)
        self.assertEqual(many, 4)
        self.assertEqual(values[7], 1)
        self.assertEqual(row_told(7, 2, AND), 1)

    def test_nine_bits(self):
        for many in range(1, 9):
            for inner_many in range(1, 9):
                outer, inner = (many, (0, 1) * 2 ** (many - 1)), (inner_many, (1,) * 2 ** inner_many)
                if many * inner_many <= 8:
                    self.assertEqual(put_in(outer, inner)[0], many * inner_many)
                else:
                    self.refused(TooGreat, {"most": 8}, put_in, outer, inner)
                    self.refused(BadTable, {"place": (1,)}, put_in, (many, inner[1] + (0,)), inner)
                    self.refused(BadTable, {"place": (1, 0)}, put_in, outer,
                                 (inner_many, (2,) * 2 ** inner_many))

    def test_values_of_any_kind(self):
        for value in STRANGE:
            if type(value) is tuple and len(value) == 2:
                place = (1,) if type(value[0]) is int and 1 <= value[0] <= 8 else (0,)
            else:
                place = ()
            self.refused(BadTable, {"place": place}, put_in, value, XOR)
            self.refused(BadTable, {"place": place}, put_in, XOR, value)
            self.refused(BadTable, {"place": (0,)}, put_in, (value, XOR[1]), None)
            self.refused(BadTable, {"place": (1,)}, put_in, XOR, (3, value))
            self.refused(BadTable, {"place": (1, 3)}, put_in, XOR, (2, (0, 1, 1, value)))

    def test_refused_in_order(self):
        self.check_calls(put_in, ("outer", "inner"), (XOR, AND), [PUT_REFUSALS, PUT_REFUSALS])


def turned(formula):
    if formula[0] in ("or", "and"):
        word = {"or": "and", "and": "or"}[formula[0]]
        return (word, turned(formula[1]), turned(formula[2]))
    return (formula[0], 1 - formula[1])


def shifted(formula, by):
    if formula[0] in ("or", "and"):
        return (formula[0], shifted(formula[1], by), shifted(formula[2], by))
    return (formula[0] + by, formula[1])


def formula_by_words(formula, inner_many, inner):
    if formula[0] in ("or", "and"):
        return (formula[0],) + tuple(formula_by_words(part, inner_many, inner) for part in formula[1:])
    return shifted(inner if formula[1] == 1 else turned(inner), formula[0] * inner_many)


def leaves_in(formula):
    return sum(map(leaves_in, formula[1:])) if formula[0] in ("or", "and") else 1


def depth_in(formula):
    return 1 + max(map(depth_in, formula[1:])) if formula[0] in ("or", "and") else 0


class PutFormulaTest(Case):

    def check(self, many, formula, inner_many, inner):
        found = put_formula(many, formula, inner_many, inner)
        self.assertEqual(found, formula_by_words(formula, inner_many, inner))
        total = many * inner_many
        self.assertIs(need_formula((total, all_signs(total), (0,), (1,)), found), found)
        self.assertEqual(depth_in(found), depth_in(formula) + depth_in(inner))
        self.assertEqual(leaves_in(found), leaves_in(formula) * leaves_in(inner))
        inner_table = values_of(inner_many, inner)
        for row in range(2 ** total):
            self.assertIs(formula_is_so(found, row),
                          formula_is_so(formula, row_told(row, many, inner_table)))
        self.assertEqual(values_of(total, found), put_in(values_of(many, formula), inner_table))

    def test_thing_by_thing(self):
        dice = Dice(243)
        for many, inner_many in small_sizes():
            for _ in range(4):
                self.check(many, thrown_formula(dice, all_signs(many), 1 + dice.below(8)),
                           inner_many, thrown_formula(dice, all_signs(inner_many), 1 + dice.below(8)))

    def test_word_by_word(self):
        inner = ("and", (0, 1), (1, 0))
        self.assertEqual(put_formula(2, ("or", (1, 1), (0, 0)), 2, inner),
                         ("or", ("and", (2, 1), (3, 0)), ("or", (0, 0), (1, 1))))
        self.assertEqual(put_formula(1, (0, 0), 1, (0, 0)), (0, 1))

    def test_400_and_401_things(self):
        # 2 * L * M - 1 things of L and M leaves.
        for leaves, inner_leaves in ((200, 1), (1, 200), (100, 2), (10, 20), (8, 25)):
            formula = full(leaves, ("or",), (0, 1))
            inner = full(inner_leaves, ("and",), (0, 0))
            self.assertEqual(len(things(put_formula(1, formula, 1, inner))), 399)
        for leaves, inner_leaves in ((67, 3), (3, 67), (101, 2), (200, 200), (15, 14), (21, 10)):
            formula = full(leaves, ("or",), (0, 1))
            inner = full(inner_leaves, ("and",), (0, 0))
            self.refused(TooGreat, {"most": 400}, put_formula, 1, formula, 1, inner)

    def test_depth_60_and_61(self):
        for side in (1, 2):
            for first, second in ((60, 0), (0, 60), (59, 1), (58, 2)):
                formula = chain(first, [("or",)], side, (0, 1), (0, 0))
                inner = chain(second, [("and",)], side, (0, 1), (0, 1))
                self.assertEqual(depth_in(put_formula(1, formula, 1, inner)), 60)
            for first, second in ((60, 1), (1, 60), (59, 2)):
                formula = chain(first, [("or",)], side, (0, 1), (0, 0))
                inner = chain(second, [("and",)], side, (0, 1), (0, 1))
                self.refused(TooGreat, {"most": 60}, put_formula, 1, formula, 1, inner)
            formula = chain(60, [("or",)], side, (0, 1), (0, 0))
            self.refused(TooGreat, {"most": 400}, put_formula, 1, formula, 1, formula)

    def test_refused_in_order(self):
        good = (2, ("or", (0, 1), (1, 0)), 1, (0, 1))
        self.check_calls(put_formula, ("many", "formula", "inner_many", "inner"), good,
                         [MANY_REFUSALS, FORMULA_REFUSALS, MANY_REFUSALS, FORMULA_REFUSALS])
        self.refused(BadFormula, {"place": ()}, put_formula, 2, (0, 1), 1, (1, 1))

    def test_refused_behind_all_four(self):
        great = full(201, ("or",), (0, 1))
        deep = chain(61, [("or",)], 1, (0, 1), (0, 1))
        wide = full(150, ("or",), (0, 1))
        for many, inner_many in ((3, 3), (8, 2), (2, 5), (8, 8), (1, 9)):
            if inner_many < 9:
                self.refused(TooGreat, {"most": 8}, put_formula, many, (0, 1), inner_many, (0, 1))
                self.refused(TooGreat, {"most": 8}, put_formula, many, wide, inner_many, wide)
                self.refused(BadFormula, {"place": ()}, put_formula, many, (0, 1), inner_many, None)
                self.refused(TooGreat, {"most": 60}, put_formula, many, (0, 1), inner_many, deep)
            self.refused(TooGreat, {"most": 400}, put_formula, many, great, inner_many, None)
            self.refused(BadFormula, {"place": ()}, put_formula, many, (many, 1), inner_many, great)
        self.refused(BadParameter, {"value": 9}, put_formula, 1, (0, 1), 9, great)
        self.refused(TooGreat, {"most": 60}, put_formula, 1, deep, 9, great)


def tree_by_words(tree, inner_many, inner, known):
    if not is_branch(tree):
        return tree
    _, place, high, low = tree
    if place in known:
        return tree_by_words(high if known[place] else low, inner_many, inner, known)
    ends = {1: tree_by_words(high, inner_many, inner, {**known, place: 1}),
            0: tree_by_words(low, inner_many, inner, {**known, place: 0})}

    def put(one):
        if not is_branch(one):
            return ends[one]
        return ("ask", one[1] + place * inner_many, put(one[2]), put(one[3]))
    return put(inner)


class PutTreeTest(Case):

    def check(self, many, tree, inner_many, inner):
        found = put_tree(many, tree, inner_many, inner)
        self.assertEqual(found, tree_by_words(tree, inner_many, inner, {}))
        total = many * inner_many
        self.assertIs(need_tree(total, found), found)
        self.assertLessEqual(asks_of(total, found), asks_of(many, tree) * asks_of(inner_many, inner))
        inner_table = tree_values(inner_many, inner)
        for row in range(2 ** total):
            self.assertEqual(asked(total, found, row)[1],
                             way(tree, row_told(row, many, inner_table))[1])
        whole = put_in(tree_values(many, tree), inner_table)
        self.assertIs(is_tree_for(total, whole[1], found), True)

    def test_thing_by_thing(self):
        dice = Dice(244)
        checked = 0
        for many, inner_many in small_sizes():
            for _ in range(6):
                tree = thrown_tree(dice, many, 1 + dice.below(8))
                inner = thrown_tree(dice, inner_many, 1 + dice.below(5))
                if len(things(tree_by_words(tree, inner_many, inner, {}))) <= 600:
                    self.check(many, tree, inner_many, inner)
                    checked += 1
                else:
                    self.refused(TooGreat, {"most": 600}, put_tree, many, tree, inner_many, inner)
        self.assertGreater(checked, 80)

    def test_bits_asked_again(self):
        inner = ("ask", 0, ("ask", 1, 1, 0), 0)
        tree = ("ask", 1, ("ask", 1, ("ask", 0, 1, 0), 0), ("ask", 1, 1, ("ask", 0, ("ask", 1, 1, 0), 1)))
        self.check(2, tree, 2, inner)
        self.assertEqual(put_tree(2, ("ask", 1, ("ask", 1, 1, 0), ("ask", 1, 1, 0)), 2, inner),
                         ("ask", 2, ("ask", 3, 1, 0), 0))
        # Within the inner tree bits may be asked again, too; they stay.
        again = ("ask", 0, ("ask", 0, 1, 0), ("ask", 0, 1, 0))
        self.assertEqual(put_tree(1, ("ask", 0, 0, 1), 1, again),
                         ("ask", 0, ("ask", 0, 0, 1), ("ask", 0, 0, 1)))
        self.check(2, tree, 1, again)

    def test_trees_without_asks(self):
        for end in (0, 1):
            self.assertEqual(put_tree(2, ("ask", 0, ("ask", 0, 1, 0), ("ask", 1, 0, 1)), 3, end), 1)
            self.assertEqual(put_tree(2, end, 3, ("ask", 2, 1, 0)), end)
        self.assertEqual(put_tree(2, ("ask", 0, ("ask", 0, 1, 0), ("ask", 1, 0, 0)), 3, 0), 0)
        self.assertEqual(put_tree(1, ("ask", 0, 1, 0), 2, ("ask", 1, 1, 1)), ("ask", 1, 1, 1))
        long = long_one(60, 1, 1)
        self.assertEqual(put_tree(1, long, 1, 1), 1)
        self.assertEqual(put_tree(1, long, 1, ("ask", 0, 1, 0)), ("ask", 0, 1, 1))

    def test_600_trees_and_more(self):
        # An inner tree of N ends in the place of one ask: 2 * N - 1 trees.
        one = ("ask", 0, 1, 0)
        self.assertEqual(len(things(put_tree(1, one, 1, wide_one(300)))), 599)
        both = ("ask", 0, one, ("ask", 1, 1, 0))
        # Ends 0 go on with the second ask, of as many ends again.
        tree = ("ask", 0, 1, ("ask", 1, 1, 0))
        for zeros, ends, good in ((1, 150, True), (2, 100, True), (2, 101, False), (3, 75, True), (3, 76, False)):
            inner = self.tree_of(zeros, ends)
            trees = 2 * (ends - zeros + zeros * ends) - 1
            self.assertEqual(trees <= 600, good)
            if good:
                self.assertEqual(len(things(put_tree(2, tree, 1, inner))), trees)
            else:
                self.refused(TooGreat, {"most": 600}, put_tree, 2, tree, 1, inner)
        self.refused(TooGreat, {"most": 600}, put_tree, 2, both, 1, wide_one(300, 0))
        # What nobody can come to is not counted, and what is counted may be very much.
        self.assertEqual(len(things(put_tree(2, both, 1, wide_one(300)))), 599)
        deep = 1
        for place in range(8):
            deep = ("ask", place, deep, deep)
        self.refused(TooGreat, {"most": 600}, put_tree, 8, deep, 1, wide_one(300))
        self.assertEqual(len(things(put_tree(8, deep, 1, one))), 511)

    @staticmethod
    def tree_of(zeros, ends):
        """A tree with so many ends 0, and so many together."""
        return ("ask", 0, full(zeros, ("ask", 0), 0), full(ends - zeros, ("ask", 0), 1))

    def test_60_and_61_asks(self):
        for side in (1, 2):
            other = ("ask", 1, 0, 1)
            tree = ("ask", 0, other, 1)
            inner = long_one(60, side, 1, 0)
            self.assertEqual(asks_of(2, put_tree(2, ("ask", 0, 0, 1), 1, inner)), 60)
            # The ends 1, of which there is one, stand behind 30 or 31 asks.
            for asks, good in ((30, True), (31, False)):
                inner = long_one(asks, side, 1, 0)
                if good:
                    self.assertEqual(asks_of(2, put_tree(2, tree, 1, inner)), 2 * asks)
                else:
                    self.refused(TooGreat, {"most": 60}, put_tree, 2, tree, 1, inner)
            # One end 1 behind some asks, the ends 0 behind at most one more.
            for asks, good in ((29, True), (30, False)):
                inner = long_one(asks - 1, side, ("ask", 0, 1, ("ask", 0, 0, 0)), 0)
                if good:
                    self.assertEqual(asks_of(2, put_tree(2, tree, 1, inner)), 2 * asks + 1)
                else:
                    self.refused(TooGreat, {"most": 60}, put_tree, 2, tree, 1, inner)
            # One end far above the others goes on with the second ask.
            for end in (0, 1):
                tree = ("ask", 0, 1, other) if end == 0 else ("ask", 0, other, 1)
                for asks, good in ((59, True), (60, False)):
                    inner = ("ask", 0, end, long_one(asks - 1, side, 1 - end, 1 - end))
                    if good:
                        self.assertEqual(asks_of(2, put_tree(2, tree, 1, inner)), asks + 1)
                    else:
                        self.refused(TooGreat, {"most": 60}, put_tree, 2, tree, 1, inner)
            inner = long_one(40, side, 0, 1)
            self.assertEqual(asks_of(2, put_tree(2, ("ask", 0, 1, ("ask", 0, 1, 0)), 1, inner)), 40)
        both = ("ask", 0, ("ask", 1, 1, 0), ("ask", 1, 0, 1))
        self.refused(TooGreat, {"most": 600}, put_tree, 2, both, 1, long_one(60, 1, 1, 0))

    def test_refused_in_order(self):
        inner = [(value, BadTree, {"place": path}) for value, path in (
            (None, ()), (2, ()), (True, ()), (Touchy(), ()), (("ask", 0, 1), ()), (("ask", 2, 1, 0), (1,)),
            (("ask", 0, 1, ("ask", 1, 2, 0)), (3, 2)), (["ask", 0, 1, 0], ()), (("or", (0, 1), (0, 1)), ()))]
        self.check_calls(put_tree, ("many", "tree", "inner_many", "inner"),
                         (3, ("ask", 0, ("ask", 2, 0, 1), 1), 2, ("ask", 1, 0, ("ask", 0, 1, 0))),
                         [MANY_REFUSALS, TREE_REFUSALS, MANY_REFUSALS, inner])
        self.refused(BadTree, {"place": (1,)}, put_tree, 2, ("ask", 0, 0, 1), 1, ("ask", 1, 0, 1))

    def test_refused_behind_all_four(self):
        great, deep, wide = wide_one(301), long_one(61, 1, 1), wide_one(300)
        one = ("ask", 0, 1, 0)
        for many, inner_many in ((3, 3), (8, 2), (2, 5), (8, 8)):
            for tree in (1, one, wide):
                self.refused(TooGreat, {"most": 8}, put_tree, many, tree, inner_many, tree)
            self.refused(BadTree, {"place": ()}, put_tree, many, one, inner_many, None)
            self.refused(TooGreat, {"most": 60}, put_tree, many, one, inner_many, deep)
            self.refused(TooGreat, {"most": 600}, put_tree, many, great, inner_many, None)
        self.refused(BadParameter, {"value": 9}, put_tree, 1, one, 9, great)
        self.refused(TooGreat, {"most": 60}, put_tree, 1, deep, 9, great)

    def test_least_trees(self):
        dice = Dice(245)
        for many, inner_many in small_sizes():
            if max(many, inner_many) <= 6:
                outer, inner = thrown_table(dice, many), thrown_table(dice, inner_many)
                asks, tree, _ = least_asks(*outer)
                inner_asks, inner_tree, _ = least_asks(*inner)
                self.check(many, tree, inner_many, inner_tree)
                found = put_tree(many, tree, inner_many, inner_tree)
                self.assertLessEqual(asks_of(many * inner_many, found), asks * inner_asks)


class BothTest(Case):

    def test_all_tables_of_one_and_two_bits(self):
        for many, inner_many in itertools.product((1, 2), repeat=2):
            for values in itertools.product((0, 1), repeat=2 ** many):
                for inner in itertools.product((0, 1), repeat=2 ** inner_many):
                    whole = put_in((many, values), (inner_many, inner))
                    tree = put_tree(many, least_asks(many, values)[1],
                                    inner_many, least_asks(inner_many, inner)[1])
                    self.assertIs(is_tree_for(whole[0], whole[1], tree), True)


if __name__ == "__main__":
    unittest.main()
