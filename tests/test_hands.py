"""[7], [41] to [43]: grids and speeches checked, what is heard, turned and bare grids."""

import itertools
import unittest

from saidbetween.errors import BadGrid, BadParameter, BadTalk, TooGreat
from saidbetween.hands import (
    bare_grid, cells_at, heard, is_speech, need_grid, need_speech, speech_bits, turned_grid,
)
from tests.helpers import (
    Case, chain, Dice, EXAMPLE_TALK, full, is_branch, put, STRANGE, subsets, thing_at, things, Touchy,
    TouchyText,
)

GRID = ((0, 1), (1, 0))
WIDE = ((0, 1, 2), (3, 4, 5))
SPEECH = ("row", (0,), ("column", (0,), 0, 1), ("column", (0,), 1, 0))
WIDE_SPEECH = ("column", (0, 2), ("row", (1,), ("column", (0,), 3, 5), ("column", (2,), 2, 0)),
               ("row", (), 9, ("row", (0,), 1, 4)))

WRONG_GRIDS = [
    (None, ()), ((), ()), ([(0, 1), (1, 0)], ()), (3, ()), ("01", ()), (((0,),) * 7, ()),
    ({0: (1,)}, ()), (((), ()), (0,)), ((0, 1), (0,)), (([0, 1], (1, 0)), (0,)),
    (((0, 1), [1, 0]), (1,)), (((0, 1), (1,)), (1,)), (((0, 1), (1, 0, 1)), (1,)), (((0, 1), ()), (1,)),
    (((0,) * 7,), (0,)), (((0, 1), None), (1,)), (((0, 1), "10"), (1,)), ((Touchy(), (1, 0)), (0,)),
    (((0, 1), (1, 10)), (1, 1)), (((0, -1), (1, 0)), (0, 1)), (((True, 1), (1, 0)), (0, 0)),
    (((0, 1), (False, 0)), (1, 0)), (((0, 1.0), (1, 0)), (0, 1)), (((0, 1), (1, None)), (1, 1)),
    (((0, "1"), (1, 0)), (0, 1)), (((0, 1), (1, Touchy())), (1, 1)), (((10 ** 40, 1),), (0, 0)),
    # Two wrong things at once.
    (((0, 10), (1, 0, 1)), (0, 1)), (((0, 1), (1,), (10, 10)), (1,)), (((0, -1), None), (0, 1)),
    (((0, 1), (-1, 10)), (1, 0)), (((0,) * 7, (10,)), (0,)), ((None, (1, 10)), (0,)),
    (((0, 1), (1, 0), None, ()), (2,)),
]
GRID_REFUSALS = [(grid, BadGrid, {"place": place}) for grid, place in WRONG_GRIDS]

WRONG_SPEECHES = [
    (None, ()), (-1, ()), (10, ()), (True, ()), ((0, 1), ()), (("row", (0,), 1), ()),
    (["row", (), 0, 1], ()), (("row", [], 0, 1), (1,)), (("column", (2,), 0, 1), (1,)),
    (("row", (), ("column", (1, 0), 0, 1), None), (2, 1)), (("row", (0,), 1, ("no", (), 0, 1)), (3,)),
    (EXAMPLE_TALK, ()), (("ask", 0, 1, 0), ()), ((TouchyText("row"), (), 0, 1), ()),
]
SPEECH_REFUSALS = [(speech, BadTalk, {"place": path}) for speech, path in WRONG_SPEECHES]


def thrown_grid(dice, limit=10, most=6):
    rows, columns = 1 + dice.below(most), 1 + dice.below(most)
    return tuple(tuple(dice.below(limit) for _ in range(columns)) for _ in range(rows))


def thrown_speech(dice, grid, ends):
    """Some speech with so many ends; it may tell anything."""
    if ends == 1:
        return dice.below(10)
    first = 1 + dice.below(ends - 1)
    hand = ("row", "column")[dice.below(2)]
    lot = dice.some(range(len(grid) if hand == "row" else len(grid[0])))
    return (hand, lot, thrown_speech(dice, grid, first), thrown_speech(dice, grid, ends - first))


def told_speech(dice, grid, rows, columns):
    """A speech that tells a part of a grid, also with parts to which nobody comes."""
    found = {grid[row][column] for row in rows for column in columns}
    if dice.below(6) == 0:
        out = tuple(row for row in range(len(grid)) if row not in rows)
        return ("row", out, dice.below(10), told_speech(dice, grid, rows, columns))
    if len(found) == 1:
        return found.pop()
    hand = ("row", "column")[len(rows) == 1 or (len(columns) > 1 and dice.below(2))]
    both = rows if hand == "row" else columns
    cut = 1 + dice.below(len(both) - 1)
    one, other = both[:cut], both[cut:]
    if hand == "row":
        return (hand, one, told_speech(dice, grid, one, columns),
                told_speech(dice, grid, other, columns))
    return (hand, one, told_speech(dice, grid, rows, one), told_speech(dice, grid, rows, other))


def followed(speech, row, column):
    """What is heard, by the words of the document."""
    out = []
    while is_branch(speech):
        place = {"row": row, "column": column}[speech[0]]
        out.append((speech[0], int(place in speech[1])))
        speech = speech[2] if place in speech[1] else speech[3]
    return (tuple(out), speech)


def cells(grid):
    return list(itertools.product(range(len(grid)), range(len(grid[0]))))


def samples():
    dice = Dice(141)
    out = [(GRID, SPEECH), (WIDE, WIDE_SPEECH)]
    for _ in range(40):
        grid = thrown_grid(dice)
        out.append((grid, thrown_speech(dice, grid, 1 + dice.below(12))))
    return out


class NeedGridTest(Case):

    def test_good_ones_are_returned_themselves(self):
        dice = Dice(142)
        for grid in [GRID, WIDE, ((0,),), ((9,) * 6,) * 6, ((0,),) * 6, ((9,) * 6,)]:
            self.assertIs(need_grid(grid), grid)
        for _ in range(40):
            grid = thrown_grid(dice)
            self.assertIs(need_grid(grid), grid)

    def test_wrong_ones(self):
        for grid, place in WRONG_GRIDS:
            self.refused(BadGrid, {"place": place}, need_grid, grid)
            self.refused(BadGrid, {"place": place}, need_grid, grid=grid)

    def test_things_of_any_kind(self):
        for thing in STRANGE:
            if not (type(thing) is tuple and len(thing) == 1 and type(thing[0]) is tuple
                    and thing[0] == (0, 1)):
                with self.assertRaises(BadGrid):
                    need_grid(thing)
            wrong = ((0, 1), (1, thing))
            self.refused(BadGrid, {"place": (1, 1)}, need_grid, wrong)
            if not (type(thing) is tuple and len(thing) == 2):
                self.refused(BadGrid, {"place": (1,)}, need_grid, ((0, 1), thing))

    def test_sizes(self):
        for count in (0, 7, 100):
            self.refused(BadGrid, {"place": ()}, need_grid, ((0,),) * count)
            self.refused(BadGrid, {"place": (0,)}, need_grid, ((0,) * count,))
            self.refused(BadGrid, {"place": (1,)}, need_grid, ((0, 0), (0,) * count))

    def test_each_place(self):
        for row, column in itertools.product(range(3), range(4)):
            for wrong in (-1, 10, True, None):
                grid = [[0] * 4 for _ in range(3)]
                grid[row][column] = wrong
                grid[2][3] = wrong
                self.refused(BadGrid, {"place": (row, column)}, need_grid,
                             tuple(tuple(line) for line in grid))


class NeedSpeechTest(Case):

    def test_good_ones_are_returned_themselves(self):
        for grid, speech in samples():
            self.assertIs(need_speech(grid, speech), speech)
        for end in range(10):
            self.assertEqual(need_speech(GRID, end), end)

    def test_lots_of_rows_and_of_columns(self):
        for hand, count in (("row", 2), ("column", 3)):
            for lot in subsets(range(count)):
                speech = (hand, lot, 0, 9)
                self.assertIs(need_speech(WIDE, speech), speech)
            for lot in [(count,), (-1,), (0, 0), (1, 0), (True,), (0.0,), [0], {0}, None, 0, "0",
                        (0, Touchy()), (Touchy(),), range(1), (None,), ((0,),), (0, count), (255,)]:
                self.refused(BadTalk, {"place": (1,)}, need_speech, WIDE, (hand, lot, 0, 9))
                self.refused(BadTalk, {"place": (3, 1)}, need_speech, WIDE,
                             ("row", (), 0, (hand, lot, None, None)))

    def test_things_of_any_kind(self):
        for thing in STRANGE + [10, 11]:
            self.refused(BadTalk, {"place": ()}, need_speech, WIDE, thing)
            self.refused(BadTalk, {"place": (2,)}, need_speech, WIDE, ("row", (1,), thing, 0))
            self.refused(BadTalk, {"place": (3,)}, need_speech, WIDE, ("column", (2,), 0, thing))
            self.refused(BadTalk, {"place": ()}, need_speech, WIDE, (thing, (), 0, 1))
            self.refused(BadTalk, {"place": ()}, need_speech, WIDE, ("row", (), 0, 1, thing))

    def test_the_first_wrong_thing_of_the_walk_is_told(self):
        places = []
        for path in things(WIDE_SPEECH):
            places.append((path, 10))
            if is_branch(thing_at(WIDE_SPEECH, path)):
                places.append((path + (1,), (3,)))
        for at, (path, wrong) in enumerate(places):
            self.refused(BadTalk, {"place": path}, need_speech, WIDE, put(WIDE_SPEECH, path, wrong))
            for later, other in places[at + 1:]:
                if later[:len(path)] != path:
                    two = put(put(WIDE_SPEECH, later, other), path, wrong)
                    self.refused(BadTalk, {"place": path}, need_speech, WIDE, two)

    def test_399_speeches_and_the_401st(self):
        wide = full(200, ("row", (0,)), 5)
        self.assertEqual(len(things(wide)), 399)
        self.assertIs(need_speech(GRID, wide), wide)
        great = full(201, ("column", (1,)), 5)
        paths = things(great)
        self.assertEqual(len(paths), 401)
        self.refused(TooGreat, {"most": 400}, need_speech, GRID, great)
        for thing in (None, 10, 3, ("row", None, None, None), Touchy(), ["row"], chain(61, [("row", ())],
                                                                                      1, 0, 0)):
            self.refused(TooGreat, {"most": 400}, need_speech, GRID, put(great, paths[400], thing))
        self.refused(BadTalk, {"place": paths[399]}, need_speech, GRID, put(great, paths[399], 10))
        self.refused(BadTalk, {"place": paths[399] + (1,)}, need_speech, GRID,
                     put(great, paths[399], ("row", (2,), 0, 1)))

    def test_60_and_61_words_on_a_way(self):
        heads = [("row", (1,)), ("column", ())]
        for side in (1, 2):
            good = chain(60, heads, side, 4, 5)
            self.assertIs(need_speech(GRID, good), good)
            self.assertEqual(speech_bits(GRID, good), 60)
            self.refused(TooGreat, {"most": 60}, need_speech, GRID, chain(61, heads, side, 4, 5))
            for inmost in (("row", None, None, None), ("column", (7,), 0, Touchy())):
                self.refused(TooGreat, {"most": 60}, need_speech, GRID,
                             chain(60, heads, side, inmost, 5))
            for inmost in (10, None, ("row", (), 0), ["row", (), 0, 1], ("yes", (), 0, 1)):
                self.refused(BadTalk, {"place": (side + 1,) * 60}, need_speech, GRID,
                             chain(60, heads, side, inmost, 5))
            self.refused(BadTalk, {"place": (side + 1,) * 59 + (1,)}, need_speech, GRID,
                         chain(59, heads, side, ("row", (2,), 0, 0), 5))

    def test_wrong_things_ahead_of_and_behind_what_is_too_great(self):
        deep = chain(61, [("row", ())], 1, 0, 0)
        wide = full(201, ("row", ()), 0)
        self.refused(BadTalk, {"place": (2,)}, need_speech, GRID, ("row", (), 10, deep))
        self.refused(BadTalk, {"place": (1,)}, need_speech, GRID, ("row", (2,), deep, 10))
        self.refused(TooGreat, {"most": 60}, need_speech, GRID, ("row", (), deep, 10))
        self.refused(TooGreat, {"most": 60}, need_speech, GRID, ("row", (), deep, wide))
        self.refused(TooGreat, {"most": 400}, need_speech, GRID, ("row", (), wide, deep))
        self.refused(TooGreat, {"most": 60}, need_speech, GRID, chain(5000, [("row", ())], 1, 0, None))

    def test_refused_in_order(self):
        for function in (need_speech, cells_at, speech_bits):
            self.check_calls(function, ("grid", "speech"), (GRID, SPEECH),
                             [GRID_REFUSALS, SPEECH_REFUSALS])
            self.refused(TooGreat, {"most": 400}, function, GRID, full(201, ("row", ()), 0))
            self.refused(TooGreat, {"most": 60}, function, GRID, chain(61, [("row", ())], 2, 0, 0))


class HeardTest(Case):

    def test_over_all_cells(self):
        for grid, speech in samples():
            for row, column in cells(grid):
                self.assertEqual(heard(grid, speech, row, column), followed(speech, row, column))

    def test_example(self):
        self.assertEqual(heard(GRID, SPEECH, 0, 1), ((("row", 1), ("column", 0)), 1))
        self.assertEqual(heard(GRID, SPEECH, 1, 1), ((("row", 0), ("column", 0)), 0))
        self.assertEqual(heard(GRID, 7, 0, 0), ((), 7))

    def test_cells_at(self):
        for grid, speech in samples():
            found = cells_at(grid, speech)
            ends = [thing_at(speech, path) for path in things(speech)
                    if not is_branch(thing_at(speech, path))]
            self.assertEqual([end[2] for end in found], ends)
            together = []
            for rows, columns, number in found:
                self.assertEqual((list(rows), list(columns)), (sorted(set(rows)), sorted(set(columns))))
                for row, column in itertools.product(rows, columns):
                    self.assertEqual(heard(grid, speech, row, column)[1], number)
                    together.append((row, column))
            self.assertEqual(sorted(together), cells(grid))

    def test_parts_to_which_nobody_comes(self):
        self.assertEqual(cells_at(WIDE, ("row", (), 1, ("column", (0, 1, 2), ("column", (1,), 2, 3), 4))), (
            ((), (0, 1, 2), 1), ((0, 1), (1,), 2), ((0, 1), (0, 2), 3), ((0, 1), (), 4)))
        self.assertEqual(cells_at(WIDE, 5), (((0, 1), (0, 1, 2), 5),))
        self.assertEqual(cells_at(WIDE, ("row", (), ("row", (0,), 1, 2), 3)), (
            ((), (0, 1, 2), 1), ((), (0, 1, 2), 2), ((0, 1), (0, 1, 2), 3)))

    def test_bits(self):
        for grid, speech in samples():
            self.assertEqual(speech_bits(grid, speech), max(map(len, things(speech))))
        self.assertEqual(speech_bits(GRID, SPEECH), 2)
        self.assertEqual(speech_bits(GRID, 3), 0)

    def test_refused_in_order(self):
        wrong = [-1, True, False, None, 0.0, "0", (0,), [], Touchy(), 10 ** 40]
        rows = [(row, BadParameter, {"value": row}) for row in wrong + [2]]
        columns = [(column, BadParameter, {"value": column}) for column in wrong + [3]]
        self.check_calls(heard, ("grid", "speech", "row", "column"), (WIDE, WIDE_SPEECH, 1, 2),
                         [GRID_REFUSALS, SPEECH_REFUSALS[:3], rows, columns])
        self.refused(TooGreat, {"most": 60}, heard, WIDE, chain(61, [("row", ())], 2, 0, 0), 9, 9)


class IsSpeechTest(Case):

    def test_over_all_cells(self):
        dice = Dice(143)
        seen = set()
        for _ in range(60):
            grid = thrown_grid(dice, limit=3)
            good = told_speech(dice, grid, tuple(range(len(grid))), tuple(range(len(grid[0]))))
            self.assertIs(is_speech(grid, good), True)
            ends = [path for path in things(good) if not is_branch(thing_at(good, path))]
            for path in ends:
                other = put(good, path, (thing_at(good, path) + 1) % 10)
                wanted = all(followed(other, *cell)[1] == grid[cell[0]][cell[1]]
                             for cell in cells(grid))
                self.assertIs(is_speech(grid, other), wanted)
                seen.add(wanted)
        self.assertEqual(seen, {True, False})

    def test_all_small_grids(self):
        for numbers in itertools.product(range(2), repeat=4):
            grid = (numbers[:2], numbers[2:])
            for speech in (SPEECH, 0, 1, ("row", (0,), 0, 1), ("column", (0,), ("row", (1,), 1, 0), 1)):
                wanted = all(followed(speech, *cell)[1] == grid[cell[0]][cell[1]] for cell in cells(grid))
                self.assertIs(is_speech(grid, speech), wanted)

    def test_values_of_any_kind(self):
        for value in STRANGE + [value for value, _ in WRONG_SPEECHES]:
            self.assertIs(is_speech(((1, 1),), value), False)
            self.assertIs(is_speech(((1, 1),), ("row", (0,), 1, value)), False)
            self.assertIs(is_speech(((1, 1),), ("row", (0,), value, 1)), False)
        self.assertIs(is_speech(((1, 1),), 1), True)
        self.assertIs(is_speech(((1, 1),), ("row", (0,), 1, 7)), True)

    def test_too_great_ones_are_none(self):
        grid = ((5, 5),)
        self.assertIs(is_speech(grid, full(200, ("row", ()), 5)), True)
        self.assertIs(is_speech(grid, full(201, ("row", ()), 5)), False)
        self.assertIs(is_speech(grid, chain(60, [("column", (1,))], 1, 5, 5)), True)
        self.assertIs(is_speech(grid, chain(61, [("column", (1,))], 1, 5, 5)), False)

    def test_refused_in_order(self):
        for value in (SPEECH, None, Touchy()):
            self.check_calls(is_speech, ("grid", "value"), (GRID, value), [GRID_REFUSALS])


class MadeOfGridsTest(Case):

    def test_turned(self):
        dice = Dice(144)
        for _ in range(40):
            grid = thrown_grid(dice)
            found = turned_grid(grid)
            self.assertEqual(found, tuple(zip(*grid)))
            self.assertIs(need_grid(found), found)
            self.assertEqual(turned_grid(found), grid)
        self.assertEqual(turned_grid(WIDE), ((0, 3), (1, 4), (2, 5)))

    def test_bare(self):
        for grid, wanted in (
            (GRID, GRID), (WIDE, WIDE), (((5,) * 6,) * 6, ((5,),)), (((1, 1, 2), (1, 1, 2)), ((1, 2),)),
            (((1, 2, 1), (3, 4, 3), (1, 2, 1)), ((1, 2), (3, 4))), (((1, 2), (1, 2), (2, 1), (1, 2)),
                                                                  ((1, 2), (2, 1))),
            (((2, 1, 2, 1), (0, 1, 0, 1)), ((2, 1), (0, 1))), (((0,), (0,), (1,)), ((0,), (1,))),
        ):
            self.assertEqual(bare_grid(grid), wanted)
        dice = Dice(145)
        for _ in range(40):
            grid = thrown_grid(dice, limit=2)
            found = bare_grid(grid)
            self.assertEqual(len(set(found)), len(found))
            self.assertEqual(len(set(zip(*found))), len(found[0]))
            self.assertEqual(bare_grid(found), found)
            self.assertEqual(len(found), len(set(grid)))
            self.assertEqual(len(found[0]), len(set(zip(*grid))))

    def test_refused_in_order(self):
        for function in (turned_grid, bare_grid, need_grid):
            self.check_calls(function, ("grid",), (WIDE,), [GRID_REFUSALS])


if __name__ == "__main__":
    unittest.main()
