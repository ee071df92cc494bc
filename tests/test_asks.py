"""[7], [48], [49]: trees of asks, the fewest asks, books of cubes."""

import itertools
import unittest

from saidbetween.asks import (
    asked, asks_of, is_cube_book, is_tree_for, least_asks, need_tree,
)
from saidbetween.errors import BadParameter, BadTable, BadTree, TooGreat
from tests.helpers import (
    Case, chain, Dice, EXAMPLE_TALK, full, is_branch, put, STRANGE, thing_at, things, Touchy,
)

VALUES = (0, 0, 0, 1, 1, 0, 1, 1)
TREE = ("ask", 0, ("ask", 1, 1, 0), ("ask", 2, 1, 0))
BOOK = ((0, (0, 2, 2)), (0, (2, 0, 2)), (0, (2, 2, 0)), (1, (2, 2, 2)))

MANY_REFUSALS = [(many, BadParameter, {"value": many})
                 for many in (0, 9, -1, True, None, 3.0, "3", (3,), [3], Touchy(), 10 ** 40)]
WRONG_TREES = [
    (None, ()), (2, ()), (-1, ()), (True, ()), (("ask", 0, 1), ()), (["ask", 0, 1, 0], ()),
    (("ask", 3, 1, 0), (1,)), (("ask", 0, 1, ("ask", 1, 2, 0)), (3, 2)), (("ask", -1, 2, 2), (1,)),
    (EXAMPLE_TALK, ()),
]
TREE_REFUSALS = [(value, BadTree, {"place": path}) for value, path in WRONG_TREES]
TABLE_REFUSALS = [
    (value, BadTable, {"place": place}) for value, place in (
        (None, ()), (list(VALUES), ()), (VALUES[:7], ()), (VALUES + (0,), ()), ((), ()),
        ("00011011", ()), (VALUES[:7] + (2,), (7,)), ((True,) + VALUES[1:], (0,)),
        (VALUES[:3] + (1.0, 2, 1, 1, 1), (3,)), (VALUES[:2] + (-1,) + VALUES[3:], (2,)),
        (VALUES[:6] + (Touchy(), None), (6,)), ((0, False) + VALUES[2:], (1,)), (3, ()),
        ({row: 0 for row in range(8)}, ()),
    )
]


def long_one(depth, side, inmost, other=1, bits=(0,)):
    """A tree of this many asks, all of them in one part each."""
    return chain(depth, [("ask", bit) for bit in bits], side, inmost, other)


def wide_one(ends, end=1):
    """A tree with so many ends, of as few asks as can be."""
    return full(ends, ("ask", 0), end)


def thrown_tree(dice, many, ends):
    if ends == 1:
        return dice.below(2)
    first = 1 + dice.below(ends - 1)
    return ("ask", dice.below(many), thrown_tree(dice, many, first),
            thrown_tree(dice, many, ends - first))


def way(tree, row):
    out = []
    while is_branch(tree):
        bit = row // 2 ** tree[1] % 2
        out.append((tree[1], bit))
        tree = tree[2] if bit == 1 else tree[3]
    return (tuple(out), tree)


def samples():
    dice = Dice(31)
    return [(many, thrown_tree(dice, many, 1 + dice.below(12)))
            for many in (1, 2, 3, 5, 8) for _ in range(12)]


class NeedTreeTest(Case):

    def test_good_ones_are_returned_themselves(self):
        for many, tree in samples():
            self.assertIs(need_tree(many, tree), tree)
        for end in (0, 1):
            self.assertEqual(need_tree(1, end), end)

    def test_bits(self):
        for many in range(1, 9):
            for bit in range(many):
                tree = ("ask", bit, 0, ("ask", bit, 1, 0))
                self.assertIs(need_tree(many, tree), tree)
            for bit in (-1, many, True, False, 0.0, "0", None, (0,), Touchy(), 10 ** 40):
                self.refused(BadTree, {"place": (1,)}, need_tree, many, ("ask", bit, 0, 1))
                self.refused(BadTree, {"place": (2, 1)}, need_tree, many,
                             ("ask", 0, ("ask", bit, None, 1), 1))

    def test_things_of_any_kind(self):
        for thing in STRANGE + [2, 3, (0, 1), (1,)]:
            self.refused(BadTree, {"place": ()}, need_tree, 2, thing)
            self.refused(BadTree, {"place": (2,)}, need_tree, 2, ("ask", 1, thing, 0))
            self.refused(BadTree, {"place": (3,)}, need_tree, 2, ("ask", 1, 0, thing))
            self.refused(BadTree, {"place": (3, 2)}, need_tree, 2,
                         ("ask", 1, 0, ("ask", 0, thing, 9)))
            self.refused(BadTree, {"place": ()}, need_tree, 2, (thing, 0, 1, 0))

    def test_the_first_wrong_thing_of_the_walk_is_told(self):
        tree = ("ask", 0, ("ask", 1, ("ask", 2, 1, 0), 0), ("ask", 2, 1, ("ask", 1, 1, 0)))
        places = []
        for path in things(tree):
            places.append((path, 2))
            if is_branch(thing_at(tree, path)):
                places.append((path + (1,), 3))
        for at, (path, wrong) in enumerate(places):
            self.refused(BadTree, {"place": path}, need_tree, 3, put(tree, path, wrong))
            for later, other in places[at + 1:]:
                if later[:len(path)] != path:
                    two = put(put(tree, later, other), path, wrong)
                    self.refused(BadTree, {"place": path}, need_tree, 3, two)

    def test_599_trees_and_the_601st(self):
        self.assertEqual(len(things(wide_one(300))), 599)
        self.assertIsNotNone(need_tree(1, wide_one(300)))
        self.refused(TooGreat, {"most": 600}, need_tree, 1, wide_one(301))
        self.refused(TooGreat, {"most": 600}, need_tree, 1, wide_one(800))
        tree = wide_one(301)
        paths = things(tree)
        self.assertEqual(len(paths), 601)
        for thing in (None, 1, 2, ("ask", 0, None, None), Touchy(), ["ask"]):
            self.refused(TooGreat, {"most": 600}, need_tree, 1, put(tree, paths[600], thing))
        self.refused(BadTree, {"place": paths[599]}, need_tree, 1, put(tree, paths[599], 2))
        self.refused(BadTree, {"place": paths[599] + (1,)}, need_tree, 1,
                     put(tree, paths[599], ("ask", 1, 0, 1)))

    def test_the_same_part_many_times(self):
        tree = 1
        for _ in range(40):
            tree = ("ask", 0, tree, tree)
        self.refused(TooGreat, {"most": 600}, need_tree, 1, tree)

    def test_60_and_61_asks_on_a_way(self):
        for side in (1, 2):
            good = long_one(60, side, 0)
            self.assertIs(need_tree(1, good), good)
            self.assertEqual(asks_of(1, good), 60)
            self.refused(TooGreat, {"most": 60}, need_tree, 1, long_one(61, side, 0))
            for inmost in (("ask", 0, None, None), ("ask", 9, 0, Touchy()), ("ask", [], [], [])):
                self.refused(TooGreat, {"most": 60}, need_tree, 1, long_one(60, side, inmost))
            for inmost in (2, None, ("ask", 0, 1), ["ask", 0, 1, 0], ("yes", 0, 1, 0)):
                self.refused(BadTree, {"place": (side + 1,) * 60}, need_tree, 1,
                             long_one(60, side, inmost))
            self.refused(BadTree, {"place": (side + 1,) * 59 + (1,)}, need_tree, 1,
                         long_one(59, side, ("ask", 1, 0, 0)))

    def test_wrong_things_ahead_of_and_behind_what_is_too_great(self):
        deep = long_one(61, 1, 1)
        self.refused(TooGreat, {"most": 60}, need_tree, 1, long_one(60, 1, deep, None))
        self.refused(BadTree, {"place": (2,)}, need_tree, 1, ("ask", 0, None, deep))
        self.refused(BadTree, {"place": (1,)}, need_tree, 1, ("ask", 1, deep, None))
        self.refused(TooGreat, {"most": 60}, need_tree, 1, ("ask", 0, deep, None))
        self.refused(TooGreat, {"most": 60}, need_tree, 1, long_one(5000, 1, None, None))
        self.refused(TooGreat, {"most": 60}, need_tree, 1, ("ask", 0, deep, wide_one(301)))
        self.refused(TooGreat, {"most": 600}, need_tree, 1, ("ask", 0, wide_one(301), deep))

    def test_refused_in_order(self):
        for function in (need_tree, asks_of):
            self.check_calls(function, ("many", "tree"), (3, TREE), [MANY_REFUSALS, TREE_REFUSALS])
            self.refused(TooGreat, {"most": 600}, function, 3, wide_one(301))
            self.refused(TooGreat, {"most": 60}, function, 3, long_one(61, 1, 1))


class AskedTest(Case):

    def test_over_all_rows(self):
        for many, tree in samples():
            for row in range(2 ** many):
                self.assertEqual(asked(many, tree, row), way(tree, row))
            self.assertEqual(asks_of(many, tree), max(map(len, things(tree))))

    def test_example(self):
        self.assertEqual(asked(3, TREE, 3), (((0, 1), (1, 1)), 1))
        self.assertEqual(asked(3, TREE, 2), (((0, 0), (2, 0)), 0))
        self.assertEqual(asked(3, 1, 7), ((), 1))
        self.assertEqual(asks_of(3, TREE), 2)
        self.assertEqual(asks_of(3, 0), 0)

    def test_refused_in_order(self):
        rows = [(row, BadParameter, {"value": row})
                for row in (-1, 8, True, False, 1.0, "1", None, (1,), Touchy(), 10 ** 40)]
        self.check_calls(asked, ("many", "tree", "row"), (3, TREE, 7),
                         [MANY_REFUSALS, TREE_REFUSALS, rows])
        self.refused(TooGreat, {"most": 60}, asked, 3, long_one(61, 1, 1), -1)


class IsTreeForTest(Case):

    def test_over_all_rows(self):
        for many, tree in samples():
            values = tuple(way(tree, row)[1] for row in range(2 ** many))
            self.assertIs(is_tree_for(many, values, tree), True)
            for row in {0, 1, 2 ** many // 2, 2 ** many - 1}:
                other = values[:row] + (1 - values[row],) + values[row + 1:]
                self.assertIs(is_tree_for(many, other, tree), False)

    def test_values_of_any_kind(self):
        for value in STRANGE + [value for value, _ in WRONG_TREES]:
            self.assertIs(is_tree_for(3, VALUES, value), False)
            self.assertIs(is_tree_for(3, (1,) * 8, ("ask", 0, 1, value)), False)
            self.assertIs(is_tree_for(3, (1,) * 8, ("ask", 0, value, 1)), False)
        self.assertIs(is_tree_for(3, VALUES, TREE), True)

    def test_too_great_ones_are_none(self):
        for side in (1, 2):
            self.assertIs(is_tree_for(3, (1,) * 8, long_one(60, side, 1)), True)
            self.assertIs(is_tree_for(3, (1,) * 8, long_one(61, side, 1)), False)
        self.assertIs(is_tree_for(3, (1,) * 8, wide_one(300)), True)
        self.assertIs(is_tree_for(3, (1,) * 8, wide_one(301)), False)

    def test_eight_bits(self):
        values = tuple(row // 128 for row in range(256))
        self.assertIs(is_tree_for(8, values, ("ask", 7, 1, 0)), True)
        self.assertIs(is_tree_for(8, values, ("ask", 7, 0, 1)), False)

    def test_refused_in_order(self):
        for value in (TREE, None, Touchy()):
            self.check_calls(is_tree_for, ("many", "values", "value"), (3, VALUES, value),
                             [MANY_REFUSALS, TABLE_REFUSALS])


def fewest(values, many, rows):
    """The fewest asks for some rows, each way of asking gone through."""
    if len({values[row] for row in rows}) == 1:
        return 0
    best = many
    for bit in range(many):
        ones = [row for row in rows if row // 2 ** bit % 2]
        zeros = [row for row in rows if not row // 2 ** bit % 2]
        if ones and zeros:
            best = min(best, 1 + max(fewest(values, many, ones), fewest(values, many, zeros)))
    return best


def rows_of_cube(cube):
    return {row for row in range(2 ** len(cube))
            if all(bit in (2, row // 2 ** place % 2) for place, bit in enumerate(cube))}


def stands(values, book, entry):
    """By the words of [49]."""
    asks, cube = entry
    if asks == 0:
        return len({values[row] for row in rows_of_cube(cube)}) == 2
    free = [place for place, bit in enumerate(cube) if bit == 2]
    for place in free:
        halves = [rows_of_cube(cube[:place] + (bit,) + cube[place + 1:]) for bit in (0, 1)]
        if not any(other[0] == asks - 1 and any(rows_of_cube(other[1]) <= half for half in halves)
                   for other in book):
            return False
    return bool(free)


def is_book(values, asks, book):
    if asks == 0:
        return book == ()
    return (any(entry[0] == asks - 1 for entry in book) and list(book) == sorted(set(book))
            and all(stands(values, book, entry) for entry in book))


class LeastAsksTest(Case):

    def check(self, many, values, wanted=None):
        answer = least_asks(many, values)
        self.assertEqual(len(answer), 3)
        asks, tree, book = answer
        if wanted is None:
            wanted = fewest(values, many, range(2 ** many))
        self.assertEqual(asks, wanted)
        self.assertIs(is_tree_for(many, values, tree), True)
        self.assertEqual(asks_of(many, tree), asks)
        self.assertIs(is_cube_book(many, values, asks, book), True)
        if many < 5:
            self.assertTrue(is_book(values, asks, book))
        if asks == 0:
            self.assertEqual(book, ())

    def test_all_tables_of_one_and_of_two_bits(self):
        for many in (1, 2):
            for values in itertools.product((0, 1), repeat=2 ** many):
                self.check(many, values)

    def test_some_tables_of_three_and_four_bits(self):
        dice = Dice(32)
        for many, times in ((3, 40), (4, 10)):
            for _ in range(times):
                self.check(many, tuple(dice.below(2) for _ in range(2 ** many)))

    def test_tables_of_five_and_six_bits(self):
        for many in (5, 6):
            rows = range(2 ** many)
            self.check(many, tuple(bin(row).count("1") % 2 for row in rows), many)
            self.check(many, tuple(int(row == 0) for row in rows), many)
            self.check(many, (1,) * 2 ** many, 0)
            self.check(many, tuple(row // 16 % 2 for row in rows), 1)
            # The bits 0 and 1 tell which of four other bits it is; two of these are the same.
            self.check(many, tuple(row >> (2 + row % 4 % (many - 2)) & 1 for row in rows), 3)

    def test_example(self):
        asks, tree, book = least_asks(3, VALUES)
        self.assertEqual(asks, 2)
        self.assertIs(is_tree_for(3, VALUES, TREE), True)
        self.assertIs(is_tree_for(3, VALUES, tree), True)
        self.assertIs(is_cube_book(3, VALUES, 2, BOOK), True)
        self.assertIs(is_cube_book(3, VALUES, 2, book), True)

    def test_constant_tables(self):
        for many in range(1, 7):
            self.assertEqual(least_asks(many, (0,) * 2 ** many), (0, 0, ()))
            self.assertEqual(least_asks(many, (1,) * 2 ** many), (0, 1, ()))

    def test_refused_in_order(self):
        self.check_calls(least_asks, ("many", "values"), (3, VALUES),
                         [MANY_REFUSALS, TABLE_REFUSALS])
        for many in (7, 8):
            self.refused(TooGreat, {"most": 6}, least_asks, many, (0,) * 2 ** many)
            self.refused(TooGreat, {"most": 6}, least_asks, many, (0, 1) * 2 ** (many - 1))
            self.refused(BadTable, {"place": ()}, least_asks, many, (0,) * 2 ** (many - 1))
            self.refused(BadTable, {"place": (5,)}, least_asks, many,
                         (0,) * 5 + (2,) + (0,) * (2 ** many - 6))


class IsCubeBookTest(Case):

    def test_told_books_with_entries_left_out_put_in_and_changed(self):
        dice = Dice(33)
        seen = set()
        for many in (2, 3):
            for _ in range(12):
                values = tuple(dice.below(2) for _ in range(2 ** many))
                asks, _, book = least_asks(many, values)
                cubes = list(itertools.product((0, 1, 2), repeat=many))
                others = [book[:at] + book[at + 1:] for at in range(len(book))]
                for _ in range(12):
                    entry = (dice.below(asks + 2), cubes[dice.below(len(cubes))])
                    others.append(tuple(sorted(set(book) | {entry})))
                    if book:
                        at = dice.below(len(book))
                        others.append(tuple(sorted(set(book[:at] + (entry,) + book[at + 1:]))))
                for other in others:
                    for told in range(asks + 2):
                        wanted = is_book(values, told, other)
                        self.assertIs(is_cube_book(many, values, told, other), wanted)
                        seen.add((wanted, told > 0))
        self.assertEqual(seen, {(True, True), (False, True), (True, False), (False, False)})

    def test_each_wanted_entry_left_out(self):
        for at in range(3):
            self.assertIs(is_cube_book(3, VALUES, 2, BOOK[:at] + BOOK[at + 1:]), False)
        self.assertIs(is_cube_book(3, VALUES, 2, BOOK[:3]), False)
        self.assertIs(is_cube_book(3, VALUES, 1, BOOK[:3]), True)
        self.assertIs(is_cube_book(3, VALUES, 1, BOOK), True)
        self.assertIs(is_cube_book(3, VALUES, 3, BOOK), False)
        self.assertIs(is_cube_book(3, VALUES, 1, BOOK[:1]), True)

    def test_an_entry_may_lie_within_a_half(self):
        # The row of entries for the bit 2 is given by a cube in which more is fixed.
        values = (0, 1, 1, 0, 1, 0, 0, 1)
        book = ((0, (2, 0, 0)), (0, (0, 2, 0)), (0, (0, 0, 2)), (1, (0, 2, 2)), (1, (2, 0, 2)),
                (1, (2, 2, 0)), (2, (2, 2, 2)))
        self.assertIs(is_cube_book(3, values, 3, tuple(sorted(book))), True)
        small = ((0, (0, 2, 0)), (0, (2, 0, 0)), (1, (2, 2, 2)))
        wanted = is_book(values, 2, small)
        self.assertIs(wanted, True)
        self.assertIs(is_cube_book(3, values, 2, small), True)

    def test_other_orders(self):
        for order in itertools.permutations(BOOK):
            self.assertIs(is_cube_book(3, VALUES, 2, order), order == BOOK)
        self.assertIs(is_cube_book(3, VALUES, 2, BOOK + BOOK[-1:]), False)
        self.assertIs(is_cube_book(3, VALUES, 2, BOOK[:1] + BOOK), False)
        self.assertIs(is_cube_book(3, VALUES, 2, list(BOOK)), False)

    def test_no_asks(self):
        self.assertIs(is_cube_book(3, VALUES, 0, ()), True)
        self.assertIs(is_cube_book(3, VALUES, 0, BOOK), False)
        self.assertIs(is_cube_book(3, VALUES, 0, []), False)
        self.assertIs(is_cube_book(3, VALUES, 1, ()), False)
        self.assertIs(is_cube_book(3, (0,) * 8, 1, ((0, (2, 2, 2)),)), False)

    def test_values_of_any_kind(self):
        for value in STRANGE:
            for asks in (0, 1, 2):
                self.assertIs(is_cube_book(3, VALUES, asks, value), False)
            self.assertIs(is_cube_book(3, VALUES, 2, BOOK + (value,)), False)
            self.assertIs(is_cube_book(3, VALUES, 2, BOOK[:3] + ((1, value),)), False)
            self.assertIs(is_cube_book(3, VALUES, 2, BOOK[:3] + ((value, (2, 2, 2)),)), False)
            self.assertIs(is_cube_book(3, VALUES, 2, BOOK[:3] + ((1, (2, value, 2)),)), False)

    def test_entries_of_wrong_forms(self):
        for entry in ([1, (2, 2, 2)], (1, [2, 2, 2]), (1, (2, 2)), (1, (2, 2, 2, 2)), (1,),
                      (1, (2, 2, 3)), (1, (2, 2, -1)), (1.0, (2, 2, 2)), (True, (2, 2, 2)),
                      (1, (2, 2, 2), 0), (1, (2, True, 2))):
            self.assertIs(is_cube_book(3, VALUES, 2, BOOK[:3] + (entry,)), False)
        self.assertIs(is_cube_book(3, VALUES, 1, ((-1, (2, 2, 2)),) + BOOK[:3]), False)

    def test_great_numbers(self):
        for asks in (4, 10 ** 9, 10 ** 40):
            self.assertIs(is_cube_book(3, VALUES, asks, BOOK), False)
            self.assertIs(is_cube_book(3, VALUES, asks, BOOK + ((asks - 1, (2, 2, 2)),)), False)
        many = BOOK + tuple((asks, (2, 2, 2)) for asks in range(2, 20010))
        self.assertIs(is_cube_book(3, VALUES, 2, many), False)

    def test_all_entries_that_can_stand(self):
        values = tuple(bin(row).count("1") % 2 for row in range(256))
        cubes = list(itertools.product((0, 1, 2), repeat=8))
        book = sorted((asks, cube) for cube in cubes for asks in range(cube.count(2)))
        self.assertEqual(len(book), 8 * 3 ** 7)
        for asks in range(1, 9):
            self.assertIs(is_cube_book(8, values, asks, tuple(book)), True)
        self.assertIs(is_cube_book(8, values, 8, tuple(book[:-1]) + ((8, (2,) * 8),)), False)
        self.assertIs(is_cube_book(8, values, 8, tuple(book) + ((8, (2,) * 8),)), False)
        more = sorted(book + [(asks, (0,) * 8) for asks in range(20001 - len(book))])
        self.assertIs(is_cube_book(8, values, 8, tuple(more)), False)

    def test_eight_bits(self):
        values = tuple(int(row == 255) for row in range(256))
        book = tuple((asks, (1,) * (7 - asks) + (2,) * (asks + 1)) for asks in range(8))
        wanted = []
        for asks in range(8):
            wanted += [(asks, cube) for cube in itertools.product((1, 2), repeat=8)
                       if cube.count(2) == asks + 1]
        self.assertIs(is_cube_book(8, values, 8, tuple(sorted(wanted))), True)
        self.assertIs(is_cube_book(8, values, 8, book), False)
        self.assertIs(is_cube_book(8, values, 1, book[:1]), True)

    def test_refused_in_order(self):
        asks = [(one, BadParameter, {"value": one})
                for one in (-1, True, False, None, 2.0, "2", (2,), [], Touchy(), -10 ** 40)]
        for value in (BOOK, None, Touchy()):
            self.check_calls(
                is_cube_book, ("many", "values", "asks", "value"), (3, VALUES, 2, value),
                [MANY_REFUSALS, TABLE_REFUSALS, asks])


if __name__ == "__main__":
    unittest.main()
