"""[58]: no fewer asks than the product, and rows for which a tree asks so many."""

import itertools
import unittest

from saidbetween.asks import asked, asks_of, is_cube_book, is_tree_for, least_asks
from saidbetween.errors import BadBook, BadParameter, BadTable, BadTree, TooGreat
from saidbetween.inside import put_in, put_tree
from saidbetween.products import is_put_paper, long_row, put_paper
from tests.helpers import Case, Dice, is_branch, put, STRANGE, thing_at, things, Touchy
from tests.test_asks import fewest, is_book, long_one, wide_one
from tests.test_inside import AND, PUT_REFUSALS, small_sizes, thrown_table, XOR

XOR_BOOK = ((0, (0, 2)), (0, (2, 0)), (1, (2, 2)))
AND_BOOK = ((0, (1, 2)), (0, (2, 1)), (1, (2, 2)))
# In XOR each half has both values.
OTHER_XOR_BOOK = ((0, (1, 2)), (0, (2, 1)), (1, (2, 2)))


def tables_of_few_bits(dice, times):
    for many, inner_many in small_sizes():
        if max(many, inner_many) <= 6:
            for _ in range(times if many * inner_many < 8 else 1):
                yield thrown_table(dice, many), thrown_table(dice, inner_many)


def drawn_tree(dice, many, values, rows=None, spare=3):
    """A tree for a table that asks some bit, perhaps one that was asked, until all is known."""
    rows = range(2 ** many) if rows is None else rows
    kinds = {values[row] for row in rows}
    if len(kinds) == 1 and dice.below(4):
        return kinds.pop()
    bit = dice.below(many)
    parts = [[row for row in rows if row // 2 ** bit % 2 == one] for one in (1, 0)]
    if not parts[0] or not parts[1]:
        if len(kinds) == 1 and spare == 0:
            return kinds.pop()
        if spare == 0:
            return drawn_tree(dice, many, values, rows, spare)
        whole = drawn_tree(dice, many, values, rows, spare - 1)
        other = dice.below(2)
        return ("ask", bit, whole, other) if parts[0] else ("ask", bit, other, whole)
    return ("ask", bit, drawn_tree(dice, many, values, parts[0], spare),
            drawn_tree(dice, many, values, parts[1], spare))


def unlike_asked(many, tree, row):
    return len({bit for bit, _ in asked(many, tree, row)[0]})


class PutPaperTest(Case):

    def check(self, outer, inner):
        asks, tree, book, inner_book = answer = put_paper(outer, inner)
        many, values = put_in(outer, inner)
        needed, inner_needed = least_asks(*outer)[0], least_asks(*inner)[0]
        self.assertEqual(asks, needed * inner_needed)
        self.assertIs(is_tree_for(many, values, tree), True)
        self.assertLessEqual(asks_of(many, tree), asks)
        self.assertIs(is_cube_book(outer[0], outer[1], needed, book), True)
        self.assertIs(is_cube_book(inner[0], inner[1], inner_needed, inner_book), True)
        if max(outer[0], inner[0]) < 4:
            self.assertTrue(is_book(outer[1], needed, book))
            self.assertTrue(is_book(inner[1], inner_needed, inner_book))
        self.assertIs(is_put_paper(outer, inner, answer), True)
        row = long_row(outer, inner, book, inner_book, tree)
        self.assertEqual(unlike_asked(many, tree, row), asks)
        return asks

    def test_all_tables_of_one_and_of_two_bits(self):
        for many, inner_many in itertools.product((1, 2), repeat=2):
            for values in itertools.product((0, 1), repeat=2 ** many):
                for inner in itertools.product((0, 1), repeat=2 ** inner_many):
                    asks = self.check((many, values), (inner_many, inner))
                    whole = put_in((many, values), (inner_many, inner))
                    self.assertEqual(asks, fewest(whole[1], whole[0], range(2 ** whole[0])))

    def test_drawn_tables(self):
        seen = set()
        for outer, inner in tables_of_few_bits(Dice(251), 4):
            asks = self.check(outer, inner)
            seen.add(asks)
            many, values = put_in(outer, inner)
            if many <= 6:
                self.assertEqual(asks, least_asks(many, values)[0])
        self.assertLessEqual({0, 1, 2, 3, 4, 6}, seen)

    def test_eight_bits(self):
        for outer, inner in ((XOR, (4, (0, 1, 1, 0, 1, 0, 0, 1) * 2)),
                             ((4, (0, 1, 1, 0, 1, 0, 0, 1, 1, 0, 0, 1, 0, 1, 1, 0)), AND)):
            self.check(outer, inner)
        parity = tuple(bin(row).count("1") % 2 for row in range(16))
        self.assertEqual(self.check(XOR, (4, parity)), 8)
        self.assertEqual(self.check((4, parity), XOR), 8)

    def test_example(self):
        asks, tree, _, _ = put_paper(XOR, AND)
        self.assertEqual(asks, 4)
        self.assertIs(is_put_paper(XOR, AND, (4, tree, XOR_BOOK, AND_BOOK)), True)

    def test_six_and_seven_bits(self):
        one = (1, (0, 1))
        six = (6, tuple(bin(row).count("1") % 2 for row in range(64)))
        self.assertEqual(self.check(one, six), 6)
        self.assertEqual(self.check(six, one), 6)
        for many in (7, 8):
            table = (many, (0, 1) * 2 ** (many - 1))
            for outer, inner in ((one, table), (table, one)):
                self.refused(TooGreat, {"most": 6}, put_paper, outer, inner)
                for value in (None, (0, 0, (), ()), Touchy()):
                    self.refused(TooGreat, {"most": 6}, is_put_paper, outer, inner, value)
                tree = ("ask", 0, 1, 0)
                book, both = ((0, (2,) * many),), ((0, (2,)),)
                books = (both, book) if outer == one else (book, both)
                row = long_row(outer, inner, books[0], books[1], tree)
                self.assertIn(row, range(2 ** many))
            for outer, inner in ((table, (2, (0, 1, 1, 0))), ((2, (0, 1, 1, 0)), table)):
                self.refused(TooGreat, {"most": 8}, put_paper, outer, inner)
                self.refused(TooGreat, {"most": 8}, is_put_paper, outer, inner, None)
                self.refused(TooGreat, {"most": 8}, long_row, outer, inner, None, None, None)

    def test_refused_in_order(self):
        self.check_calls(put_paper, ("outer", "inner"), (XOR, AND), [PUT_REFUSALS, PUT_REFUSALS])
        for value in (put_paper(XOR, AND), None, Touchy()):
            self.check_calls(is_put_paper, ("outer", "inner", "value"), (XOR, AND, value),
                             [PUT_REFUSALS, PUT_REFUSALS])


class IsPutPaperTest(Case):

    def test_right_ones_that_are_not_told(self):
        tree = put_paper(XOR, AND)[1]
        again = ("ask", 3, tree, tree)
        for book in (XOR_BOOK, OTHER_XOR_BOOK, tuple(sorted(set(XOR_BOOK + OTHER_XOR_BOOK)))):
            self.assertIs(is_put_paper(XOR, AND, (4, tree, book, AND_BOOK)), True)
            self.assertIs(is_put_paper(XOR, AND, (4, again, book, AND_BOOK)), False)
            self.assertIs(is_put_paper(XOR, AND, (5, again, book, AND_BOOK)), False)
        other = put_tree(2, ("ask", 1, ("ask", 0, 0, 1), ("ask", 0, 1, 0)),
                         2, ("ask", 1, ("ask", 0, 1, 0), 0))
        self.assertIs(is_put_paper(XOR, AND, (4, other, XOR_BOOK, AND_BOOK)), True)

    def test_products_that_fewer_show(self):
        """A book for P asks has entries for fewer, too; no tree has so few asks."""
        tree = put_paper(XOR, AND)[1]
        for asks in range(10):
            self.assertIs(is_put_paper(XOR, AND, (asks, tree, XOR_BOOK, AND_BOOK)), asks == 4)
        for book, inner_book in ((XOR_BOOK[:1], AND_BOOK), (XOR_BOOK, AND_BOOK[:1]), ((), AND_BOOK), ((), ())):
            for asks in (0, 1, 2, 4):
                self.assertIs(is_put_paper(XOR, AND, (asks, tree, book, inner_book)), False)

    def test_tables_of_one_value(self):
        constant = (2, (1,) * 4)
        for outer, inner in ((constant, AND), (XOR, constant), (constant, constant)):
            answer = put_paper(outer, inner)
            self.assertEqual(answer[0], 0)
            self.assertIs(is_put_paper(outer, inner, answer), True)
            self.assertIs(is_put_paper(outer, inner, (0, answer[1], (), ())), True)
            self.assertIs(is_put_paper(outer, inner, (1,) + answer[1:]), False)
            self.assertIs(is_put_paper(outer, inner, (False,) + answer[1:]), False)
            self.assertIs(is_put_paper(outer, inner, (0, ("ask", 0, answer[1], answer[1]), (), ())), False)
            self.assertIs(is_put_paper(outer, inner, (0, 1 - answer[1], (), ())), False)
        self.assertIs(is_put_paper(XOR, constant, (0, 0, XOR_BOOK, ())), True)
        self.assertIs(is_put_paper(constant, XOR, (0, 1, XOR_BOOK, ())), False)

    def test_bent(self):
        dice = Dice(252)

        def shown(table, book):
            return [asks for asks in range(8) if is_cube_book(table[0], table[1], asks, book)]

        for outer, inner in tables_of_few_bits(dice, 2):
            if max(outer[0], inner[0]) > 3:
                continue
            asks, tree, book, inner_book = good = put_paper(outer, inner)
            for other in (asks - 1, asks + 1, float(asks), str(asks), None, (asks,), -1):
                self.assertIs(is_put_paper(outer, inner, (other,) + good[1:]), False)
            for path in things(tree)[:20]:
                if not is_branch(thing_at(tree, path)):
                    other = put(tree, path, 1 - thing_at(tree, path))
                    self.assertIs(is_put_paper(outer, inner, (asks, other, book, inner_book)), False)
            books = [book[:at] + book[at + 1:] for at in range(len(book))] + [inner_book]
            inner_books = [inner_book[:at] + inner_book[at + 1:] for at in range(len(inner_book))]
            for one, other in [(one, inner_book) for one in books] + [(book, two) for two in inner_books]:
                wanted = any(first * second == asks for first in shown(outer, one)
                             for second in shown(inner, other))
                self.assertIs(is_put_paper(outer, inner, (asks, tree, one, other)), wanted)

    def test_values_of_any_kind(self):
        good = put_paper(XOR, AND)
        for value in STRANGE:
            self.assertIs(is_put_paper(XOR, AND, value), False)
            for at in range(4):
                self.assertIs(is_put_paper(XOR, AND, good[:at] + (value,) + good[at + 1:]), False)
            self.assertIs(is_put_paper(XOR, AND, good[:2] + (good[2] + (value,), good[3])), False)
            self.assertIs(is_put_paper(XOR, AND, good[:3] + (good[3][:-1] + (value,),)), False)
        for value in (list(good), good[:3], good + (0,), good[2], (4, wide_one(301), XOR_BOOK, AND_BOOK)):
            self.assertIs(is_put_paper(XOR, AND, value), False)
        one = put_paper((1, (0, 1)), (1, (0, 1)))
        self.assertIs(is_put_paper((1, (0, 1)), (1, (0, 1)), one), True)
        self.assertIs(is_put_paper((1, (0, 1)), (1, (0, 1)), (True,) + one[1:]), False)


class LongRowTest(Case):

    def test_drawn_trees(self):
        dice = Dice(253)
        beyond = set()
        for outer, inner in tables_of_few_bits(dice, 3):
            asks, tree, book, inner_book = put_paper(outer, inner)
            many, values = put_in(outer, inner)
            trees = [tree] + [drawn_tree(dice, many, values) for _ in range(4)]
            for told in trees:
                if len(things(told)) > 600 or not is_tree_for(many, values, told):
                    continue
                row = long_row(outer, inner, book, inner_book, told)
                self.assertIs(type(row), int)
                self.assertIn(row, range(2 ** many))
                self.assertGreaterEqual(unlike_asked(many, told, row), asks)
                beyond.add(unlike_asked(many, told, row) - asks)
        self.assertLessEqual({0, 1}, beyond)

    def test_bits_asked_again(self):
        tree = put_paper(XOR, AND)[1]
        for bit in (3, 0, 3):
            tree = ("ask", bit, tree, tree)
            row = long_row(XOR, AND, XOR_BOOK, AND_BOOK, tree)
            self.assertEqual(unlike_asked(4, tree, row), 4)
        # Unlike bits are counted: a long way with few of them is not told.
        many = ("ask", 1, 1, 0)
        for _ in range(20):
            many = ("ask", 1, many, 0)
        tree = ("ask", 0, ("ask", 2, 1, 0), many)
        outer = (1, (0, 1))
        inner = (3, tuple(int(row % 2 and row // 4 or not row % 2 and row // 2 % 2) for row in range(8)))
        book = least_asks(*inner)[2]
        row = long_row(outer, inner, ((0, (2,)),), book, tree)
        self.assertEqual(unlike_asked(3, tree, row), 2)

    def test_lesser_books(self):
        tree = put_paper(XOR, AND)[1]
        for book in ((), ((0, (2, 2)),), XOR_BOOK, OTHER_XOR_BOOK):
            for inner_book in ((), ((0, (2, 2)),), AND_BOOK):
                row = long_row(XOR, AND, book, inner_book, tree)
                self.assertIs(type(row), int)
                self.assertIn(row, range(16))
        constant = (2, (1,) * 4)
        self.assertIn(long_row(constant, AND, (), AND_BOOK, 1), range(16))
        self.assertIn(long_row(XOR, constant, XOR_BOOK, (), 0), range(16))

    def test_refused_in_order(self):
        tree = put_paper(XOR, AND)[1]

        def wrong(good, other):
            return [(value, BadBook, {"value": value}) for value in (
                None, Touchy(), list(good), good[::-1], good[:1], good[:2], good[1:], good + good[-1:], 1,
                good[:2] + ((1, (2, 2, 2)),), good[:2] + ((True, (2, 2)),), good[:2] + ((2, (2, 2)),),
                (good[0], Touchy()), ((-1, (2, 2)),), other, "", ((0, [2, 2]),))]
        none = ((0, (2, 2)), (2, (2, 2)))
        trees = [(value, BadTree, {"place": path}) for value, path in (
            (None, ()), (2, ()), (Touchy(), ()), (("ask", 4, 0, 1), (1,)), (("ask", 3, 0, 2), (3,)))]
        trees += [(value, BadParameter, {"value": value}) for value in (
            0, 1, ("ask", 3, 1, 0), ("ask", 0, tree, 1))]
        self.check_calls(long_row, ("outer", "inner", "book", "inner_book", "tree"),
                         (XOR, AND, XOR_BOOK, AND_BOOK, tree),
                         [PUT_REFUSALS, PUT_REFUSALS, wrong(XOR_BOOK, none), wrong(AND_BOOK, none), trees])
        self.refused(TooGreat, {"most": 600}, long_row, XOR, AND, XOR_BOOK, AND_BOOK, wide_one(301))
        self.refused(TooGreat, {"most": 60}, long_row, XOR, AND, XOR_BOOK, AND_BOOK, long_one(61, 1, 1))
        self.refused(BadTable, {"place": (1, 3)}, long_row, XOR, (2, (0, 0, 0, 2)), None, None, None)

    def test_books_without_the_whole_cube(self):
        tree = put_paper(XOR, AND)[1]
        for book in (XOR_BOOK[:2], XOR_BOOK[:1]):
            self.assertTrue(is_cube_book(2, XOR[1], 1, book))
            self.refused(BadBook, {"value": book}, long_row, XOR, AND, book, AND_BOOK, tree)
            self.refused(BadBook, {"value": book}, long_row, XOR, AND, book, None, None)
        for book in (AND_BOOK[:2], AND_BOOK[1:2]):
            self.refused(BadBook, {"value": book}, long_row, XOR, AND, XOR_BOOK, book, tree)
            self.refused(BadBook, {"value": book}, long_row, XOR, AND, (), book, None)

    def test_eight_bits(self):
        one = (1, (1, 0))
        table = (8, tuple(bin(row).count("1") % 2 for row in range(256)))
        cubes = itertools.product((0, 1, 2), repeat=8)
        book = tuple(sorted((cube.count(2) - 1, cube) for cube in cubes if 2 in cube))
        self.assertIs(is_cube_book(8, table[1], 8, book), True)
        trees = (0, 1)
        for place in range(8):
            trees = (("ask", place, trees[1], trees[0]), ("ask", place, trees[0], trees[1]))
        for outer, inner, both, told in (
            (one, table, (((0, (2,)),), book), trees[1]),
            (table, (1, (0, 1)), (book, ((0, (2,)),)), trees[0]),
        ):
            row = long_row(outer, inner, both[0], both[1], told)
            self.assertEqual(unlike_asked(8, told, row), 8)


if __name__ == "__main__":
    unittest.main()
