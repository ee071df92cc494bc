"""[43], [44]: the fewest bits for grids, their books, fools, ranks and bounds."""

import itertools
import unittest

from saidbetween.errors import BadParameter
from saidbetween.hands import bare_grid, is_speech, speech_bits, turned_grid
from saidbetween.saying import (
    greatest_fool, grid_counts, grid_rank, is_fool, is_grid_book, is_least_said, least_said, said_bound,
)
from tests.brute import bent, is_ascending, is_within, lots, partings
from tests.helpers import Case, chain, Dice, EXAMPLE_TALK, full, STRANGE, subsets, Touchy
from tests.test_hands import cells, GRID, GRID_REFUSALS, SPEECH, thrown_grid
from tests.test_ranks import rank_by_determinants

CORNER = ((0, 0), (0, 1))
BOOK = ((0, (0,), (0, 1)), (0, (0, 1), (0,)), (0, (0, 1), (1,)), (0, (1,), (0, 1)),
        (1, (0, 1), (0, 1)))
GRID_PRIMES = [number for number in range(2, 1000)
               if all(number % other for other in range(2, number))]

BITS_REFUSALS = [(bits, BadParameter, {"value": bits})
                 for bits in (-1, 401, True, False, None, 1.0, "1", (1,), Touchy(), 10 ** 40)]
NUMBER_REFUSALS = [(number, BadParameter, {"value": number})
                   for number in (-1, 10, True, False, None, 1.0, "1", (1,), Touchy(), 10 ** 40)]
PRIME_REFUSALS = [(prime, BadParameter, {"value": prime})
                  for prime in (0, 1, 4, 9, 91, 961, 998, 999, 1009, -2, True, None, 2.0, "2",
                                Touchy(), 10 ** 40)]


def rows_and_columns(grid):
    return tuple(range(len(grid))), tuple(range(len(grid[0])))


def rectangles(grid):
    rows, columns = rows_and_columns(grid)
    return list(itertools.product(lots(rows), lots(columns)))


def has_one(grid, rows, columns):
    return len({grid[row][column] for row in rows for column in columns}) == 1


def least(grid, rows, columns, known):
    """The least bits for some rows and columns, all partings of both gone through."""
    at = (rows, columns)
    if at not in known:
        known[at] = 0 if has_one(grid, rows, columns) else 1 + min(
            [max(least(grid, one, columns, known), least(grid, other, columns, known))
             for one, other in partings(rows)]
            + [max(least(grid, rows, one, known), least(grid, rows, other, known))
               for one, other in partings(columns)])
    return known[at]


def stands(grid, book, entry):
    """By the words of [43] and [6]."""
    bits, rows, columns = entry
    if bits == 0:
        return not has_one(grid, rows, columns)
    for some in subsets(rows):
        rest = tuple(row for row in rows if row not in some)
        if not any(other[0] == bits - 1 and (is_within(other[1:], (some, columns))
                                             or is_within(other[1:], (rest, columns)))
                   for other in book):
            return False
    for some in subsets(columns):
        rest = tuple(column for column in columns if column not in some)
        if not any(other[0] == bits - 1 and (is_within(other[1:], (rows, some))
                                             or is_within(other[1:], (rows, rest)))
                   for other in book):
            return False
    return True


def is_right_book(grid, bits, book):
    return (is_ascending(book) and all(entry[0] <= bits for entry in book)
            and any(entry[0] == bits for entry in book)
            and all(stands(grid, book, entry) for entry in book))


def small_grids(dice, count, limit, most=4):
    return [thrown_grid(dice, limit=limit, most=most) for _ in range(count)]


class LeastSaidTest(Case):

    def check(self, grid, wanted):
        answer = least_said(grid)
        self.assertIs(type(answer), tuple)
        bits, speech, book = answer
        self.assertIs(type(bits), int)
        self.assertEqual(bits, wanted)
        self.assertIs(is_speech(grid, speech), True)
        self.assertEqual(speech_bits(grid, speech), bits)
        if bits == 0:
            self.assertEqual(book, ())
        else:
            self.assertIs(is_grid_book(grid, bits - 1, book), True)
        self.assertIs(is_least_said(grid, answer), True)
        return book

    def test_by_all_partings(self):
        dice = Dice(151)
        seen = set()
        for grid in [GRID, CORNER] + [grid for limit in (2, 3, 5, 10)
                                      for grid in small_grids(dice, 14, limit)]:
            known = {}
            wanted = least(grid, *rows_and_columns(grid), known)
            book = self.check(grid, wanted)
            if wanted:
                self.assertTrue(is_right_book(grid, wanted - 1, book))
            values = [least(grid, *one, known) for one in rectangles(grid)]
            self.assertEqual(grid_counts(grid), tuple(
                len([value for value in values if value <= bits]) for bits in range(wanted + 1)))
            self.assertEqual(grid_counts(grid)[-1],
                             (2 ** len(grid) - 1) * (2 ** len(grid[0]) - 1))
            seen.add(wanted)
        self.assertLessEqual({0, 1, 2, 3, 4}, seen)

    def test_examples(self):
        self.check(GRID, 2)
        self.check(CORNER, 2)
        self.assertIs(is_least_said(GRID, (2, SPEECH, BOOK)), True)
        self.assertEqual(grid_counts(GRID), (4, 8, 9))
        self.check(((7,),), 0)
        self.check(((7, 7), (7, 7)), 0)
        self.assertEqual(grid_counts(((7, 7), (7, 7))), (9,))
        self.check(((0, 1, 2, 3, 4, 5),), 3)

    def test_greatest_grids(self):
        same = tuple(tuple(int(row == column) for column in range(6)) for row in range(6))
        self.check(same, 4)
        less = tuple(tuple(int(row < column) for column in range(6)) for row in range(6))
        self.check(less, 4)
        many = tuple(tuple(row * column % 10 for column in range(6)) for row in range(6))
        self.check(many, least(many, *rows_and_columns(many), {}))

    def test_facts(self):
        dice = Dice(152)
        for limit in (2, 3, 10):
            for grid in small_grids(dice, 20, limit, most=5):
                bits = least_said(grid)[0]
                self.assertEqual(least_said(turned_grid(grid))[0], bits)
                self.assertEqual(least_said(bare_grid(grid))[0], bits)
                rows, columns = rows_and_columns(grid)
                some, others = dice.some(rows, 1), dice.some(columns, 1)
                lesser = tuple(tuple(grid[row][column] for column in others) for row in some)
                self.assertLessEqual(least_said(lesser)[0], bits)
                unlike = len(set(grid))
                numbers = len({number for line in grid for number in line})
                self.assertLessEqual(
                    bits, (unlike - 1).bit_length() + (numbers - 1).bit_length())
                for prime in (2, 7):
                    self.assertLessEqual(said_bound(grid, prime)[1], bits)

    def test_refused_in_order(self):
        for function in (least_said, grid_counts):
            self.check_calls(function, ("grid",), (GRID,), [GRID_REFUSALS])


class IsLeastSaidTest(Case):

    def test_right_and_bent(self):
        dice = Dice(153)
        for grid in [GRID, CORNER] + small_grids(dice, 6, 3, most=3):
            bits, speech, book = least_said(grid)
            for other in (bits - 1, bits + 1, float(bits), str(bits), (bits,), None, bits + 400, -1):
                self.assertIs(is_least_said(grid, (other, speech, book)), False)
            deeper = ("row", tuple(range(len(grid))), speech, 0)
            self.assertIs(is_speech(grid, deeper), True)
            self.assertIs(is_least_said(grid, (bits, deeper, book)), False)
            self.assertIs(is_least_said(grid, (bits + 1, deeper, book)), False)
            for at in range(len(book)):
                left = book[:at] + book[at + 1:]
                wanted = is_right_book(grid, bits - 1, left)
                self.assertIs(is_least_said(grid, (bits, speech, left)), wanted)

    def test_other_right_ones(self):
        other = ("column", (0,), ("row", (1,), 1, 0), ("row", (1,), 0, 1))
        shorter = (BOOK[0], BOOK[1], BOOK[4])
        for speech in (SPEECH, other):
            for book in (BOOK, shorter):
                self.assertIs(is_least_said(GRID, (2, speech, book)), True)
        for speech in (0, ("row", (0,), 0, 1), ("column", (1,), SPEECH[2], SPEECH[3])):
            self.assertIs(is_least_said(GRID, (2, speech, BOOK)), False)

    def test_true_and_false_are_no_numbers(self):
        one = ((0, 1),)
        bits, speech, book = least_said(one)
        self.assertIs(is_least_said(one, (1, speech, book)), True)
        self.assertIs(is_least_said(one, (True, speech, book)), False)
        self.assertIs(is_least_said(((3,),), (0, 3, ())), True)
        self.assertIs(is_least_said(((3,),), (False, 3, ())), False)
        self.assertIs(is_least_said(((1,),), (0, True, ())), False)
        self.assertIs(is_least_said(((1,),), (0, 1, [])), False)
        self.assertIs(is_least_said(((1,),), (0, 1, ((0, (0,), (0,)),))), False)

    def test_values_of_any_kind(self):
        for value in ((2, SPEECH), [2, SPEECH, BOOK], (2, SPEECH, BOOK, 0), SPEECH, BOOK, GRID):
            self.assertIs(is_least_said(GRID, value), False)
        for value in STRANGE + [EXAMPLE_TALK, full(201, ("row", ()), 0),
                                chain(61, [("row", ())], 2, 0, 0)]:
            self.assertIs(is_least_said(GRID, value), False)
            self.assertIs(is_least_said(GRID, (value, SPEECH, BOOK)), False)
            self.assertIs(is_least_said(GRID, (2, value, BOOK)), False)
            self.assertIs(is_least_said(GRID, (2, SPEECH, value)), False)

    def test_refused_in_order(self):
        for value in ((2, SPEECH, BOOK), None, Touchy()):
            self.check_calls(is_least_said, ("grid", "value"), (GRID, value), [GRID_REFUSALS])


class IsGridBookTest(Case):

    def test_books_bent(self):
        dice = Dice(154)
        seen = set()
        for grid in [GRID, CORNER] + small_grids(dice, 14, 3, most=3):
            bits, _, book = least_said(grid)
            all_of = rectangles(grid)

            def entry():
                return (dice.below(bits + 1),) + all_of[dice.below(len(all_of))]
            for other in [book] + bent(dice, book, entry, 6):
                for told in range(bits + 2):
                    wanted = is_right_book(grid, told, other)
                    self.assertIs(is_grid_book(grid, told, other), wanted)
                    seen.add((wanted, told))
        self.assertLessEqual({(True, 0), (True, 1), (True, 2), (False, 0), (False, 1), (False, 2)}, seen)

    def test_entries_of_wrong_forms(self):
        wide = ((0, 1, 0), (1, 0, 1))
        book = least_said(wide)[2]
        self.assertEqual(book[-1][0], 1)
        for entry in (
            (1, (), (0, 1)), (1, (0, 1), ()), (1, (0, 2), (0, 1)), (1, (0, 1), (0, 3)),
            (1, (1, 0), (0, 1)), (1, [0, 1], (0, 1)), (1, (0, 1), [0, 1]), (1, (0, 1)),
            (1, (0, 1), (0, 1), ()), [1, (0, 1), (0, 1)], (True, (0, 1), (0, 1)), (1.0, (0, 1), (0, 1)),
            (-1, (0, 1), (0, 1)), (2, (0, 1), (0, 1)), (1, (0, True), (0, 1)), (1, (0, 1), (False, 1)),
        ):
            self.assertIs(is_grid_book(wide, 1, book[:-1] + (entry,)), False)
            self.assertIs(is_grid_book(wide, 1, book + (entry,)), False)
            self.assertIs(is_grid_book(wide, 1, (entry,) + book), False)
        self.assertIs(is_grid_book(wide, 1, book), True)
        # All columns and both rows: sets of rows are not mixed up with sets of columns.
        whole = book[:-1] + ((1, (0, 1), (0, 1, 2)),)
        self.assertIs(is_grid_book(wide, 1, tuple(sorted(whole))), is_right_book(wide, 1, whole))
        self.assertIs(is_grid_book(wide, 1, book[:-1] + ((1, (0, 1, 2), (0, 1)),)), False)

    def test_values_of_any_kind(self):
        for value in STRANGE:
            for bits in (0, 1, 400):
                self.assertIs(is_grid_book(GRID, bits, value), False)
            self.assertIs(is_grid_book(GRID, 1, BOOK + (value,)), False)
            for at in range(3):
                entry = BOOK[4][:at] + (value,) + BOOK[4][at + 1:]
                self.assertIs(is_grid_book(GRID, 1, BOOK[:4] + (entry,)), False)
        self.assertIs(is_grid_book(GRID, 1, list(BOOK)), False)
        self.assertIs(is_grid_book(GRID, 1, BOOK[::-1]), False)
        self.assertIs(is_grid_book(GRID, 0, BOOK), False)
        self.assertIs(is_grid_book(GRID, 2, BOOK), False)
        self.assertIs(is_grid_book(GRID, 0, BOOK[:1]), True)

    def test_refused_in_order(self):
        for value in (BOOK, None, Touchy()):
            self.check_calls(is_grid_book, ("grid", "bits", "value"), (GRID, 1, value),
                             [GRID_REFUSALS, BITS_REFUSALS])
        for bits in (0, 400):
            self.assertIs(is_grid_book(GRID, bits, None), False)


def are_fool(grid, number, some):
    """By the words of [44]."""
    return all(grid[row][column] == number for row, column in some) and all(
        grid[one[0]][other[1]] != number or grid[other[0]][one[1]] != number
        for one, other in itertools.combinations(some, 2))


class FoolTest(Case):

    def test_by_all_sets_of_cells(self):
        dice = Dice(155)
        seen = set()
        for limit in (2, 3):
            for grid in [GRID, CORNER] + small_grids(dice, 25, limit, most=4):
                for number in range(3):
                    some = [cell for cell in cells(grid) if grid[cell[0]][cell[1]] == number]
                    if len(some) > 10:
                        continue
                    fools = [fool for fool in subsets(some) if are_fool(grid, number, fool)]
                    most = max(map(len, fools))
                    wanted = min(fool for fool in fools if len(fool) == most)
                    self.assertEqual(greatest_fool(grid, number), wanted)
                    for fool in fools:
                        self.assertIs(is_fool(grid, number, fool), True)
                    seen.add(most)
        self.assertLessEqual({0, 1, 2, 3, 4}, seen)

    def test_all_tuples_of_cells_of_a_small_grid(self):
        grid = ((0, 1, 0), (1, 0, 0))
        for number in (0, 1, 2):
            for count in range(4):
                for some in itertools.product(cells(grid), repeat=count):
                    wanted = list(some) == sorted(set(some)) and are_fool(grid, number, some)
                    self.assertIs(is_fool(grid, number, some), wanted)

    def test_greater_grids(self):
        for count in (5, 6):
            less = tuple(tuple(int(row <= column) for column in range(count)) for row in range(count))
            self.assertEqual(greatest_fool(less, 1), tuple((at, at) for at in range(count)))
            self.assertEqual(greatest_fool(less, 0), tuple((at + 1, at) for at in range(count - 1)))
            same = tuple(tuple(int(row == column) for column in range(count)) for row in range(count))
            self.assertEqual(greatest_fool(same, 1), tuple((at, at) for at in range(count)))
            self.assertTrue(are_fool(same, 0, greatest_fool(same, 0)))
        self.assertEqual(greatest_fool(((3,) * 6,) * 6, 3), ((0, 0),))
        # The least of those with as many cells begins later than some with fewer.
        late = ((1, 1, 1), (1, 0, 1), (1, 1, 0))
        self.assertEqual(len(greatest_fool(late, 1)), 2)

    def test_examples(self):
        self.assertEqual(greatest_fool(GRID, 0), ((0, 0), (1, 1)))
        self.assertEqual(greatest_fool(GRID, 1), ((0, 1), (1, 0)))
        self.assertEqual(greatest_fool(CORNER, 0), ((0, 1), (1, 0)))
        self.assertEqual(greatest_fool(CORNER, 1), ((1, 1),))
        for number in range(2, 10):
            self.assertEqual(greatest_fool(GRID, number), ())
            self.assertIs(is_fool(GRID, number, ()), True)
            self.assertIs(is_fool(GRID, number, ((0, 0),)), False)

    def test_what_is_none(self):
        good = ((0, 1), (1, 0))
        self.assertIs(is_fool(CORNER, 0, good), True)
        for value in (
            good[::-1], ((0, 1), (0, 1)), ((0, 1), (0, 1), (1, 0)), list(good), ([0, 1], (1, 0)),
            ((0, 1), [1, 0]), ((0, 1), (1, 0), (1, 1)), ((1, 1),), ((0, 0), (0, 1)), ((0, 2),),
            ((2, 0),), ((-1, 0),), ((0, -1),), ((False, 1), (1, 0)), ((0, True), (1, 0)), ((0, 1.0),),
            ((0, 1, 0),), ((0,),), (0, 1), "01", ((0, 1), None), ((0, 1), (1, Touchy())), (Touchy(),),
            frozenset(good), ((0, 0), (0, 1), (1, 0)), ((0, 0), (1, 0)), {(0, 1)},
        ):
            self.assertIs(is_fool(CORNER, 0, value), False)
        for value in STRANGE:
            self.assertIs(is_fool(CORNER, 1, value), False)
            self.assertIs(is_fool(CORNER, 0, (value,)), type(value) is tuple and len(value) == 2
                          and all(type(one) is int for one in value) and value in good)

    def test_refused_in_order(self):
        self.check_calls(greatest_fool, ("grid", "number"), (GRID, 0), [GRID_REFUSALS, NUMBER_REFUSALS])
        for value in (((0, 0), (1, 1)), None, Touchy()):
            self.check_calls(is_fool, ("grid", "number", "value"), (GRID, 0, value),
                             [GRID_REFUSALS, NUMBER_REFUSALS])
        for number in (0, 9):
            self.assertIs(is_fool(GRID, number, ((0, 0), (1, 1))), number == 0)


class RankTest(Case):

    def test_by_determinants(self):
        dice = Dice(156)
        for grid in [GRID, CORNER] + small_grids(dice, 30, 3, most=5):
            for number in (0, 1, 2, 9):
                rows = tuple(tuple(int(one == number) for one in line) for line in grid)
                for prime in (2, 3, 997):
                    self.assertEqual(grid_rank(grid, number, prime), rank_by_determinants(prime, rows))

    def test_primes(self):
        hollow = ((0, 1, 1), (1, 0, 1), (1, 1, 0))
        self.assertEqual([grid_rank(hollow, 1, prime) for prime in (2, 3, 5)], [2, 3, 3])
        for prime in range(-2, 1020):
            if prime in GRID_PRIMES:
                self.assertEqual(grid_rank(GRID, 0, prime), 2)
                self.assertEqual(said_bound(GRID, prime), (4, 2))
            else:
                self.refused(BadParameter, {"value": prime}, grid_rank, GRID, 0, prime)
                self.refused(BadParameter, {"value": prime}, said_bound, GRID, prime)

    def test_refused_in_order(self):
        self.check_calls(grid_rank, ("grid", "number", "prime"), (GRID, 0, 2),
                         [GRID_REFUSALS, NUMBER_REFUSALS, PRIME_REFUSALS])
        self.check_calls(said_bound, ("grid", "prime"), (GRID, 2), [GRID_REFUSALS, PRIME_REFUSALS])


class BoundTest(Case):

    def test_by_the_words(self):
        dice = Dice(157)
        greater = set()
        for limit in (2, 3, 10):
            for grid in small_grids(dice, 30, limit, most=6):
                for prime in (2, 3):
                    both = [(len(greatest_fool(grid, number)), grid_rank(grid, number, prime))
                            for number in {one for line in grid for one in line}]
                    greater |= {fool > rank for fool, rank in both if fool != rank}
                    ends = sum(max(pair) for pair in both)
                    bits = next(bits for bits in range(20) if 2 ** bits >= ends)
                    self.assertEqual(said_bound(grid, prime), (ends, bits))
        self.assertEqual(greater, {True, False})

    def test_examples(self):
        self.assertEqual(grid_rank(GRID, 0, 2), 2)
        self.assertEqual(said_bound(GRID, 2), (4, 2))
        self.assertEqual(said_bound(CORNER, 2), (3, 2))
        self.assertEqual(said_bound(((5,),), 2), (1, 0))
        self.assertEqual(said_bound(((5, 6),), 2), (2, 1))
        same = tuple(tuple(int(row == column) for column in range(6)) for row in range(6))
        self.assertEqual(said_bound(same, 997), (12, 4))


if __name__ == "__main__":
    unittest.main()
