"""[45], [46] word by word, and what covers and partings have in common to be tested."""

import itertools

from saidbetween.errors import BadParameter, TooGreat
from tests.helpers import Dice, STRANGE, Touchy, TouchyText
from tests.test_hands import cells, GRID, GRID_REFUSALS, thrown_grid
from tests.test_saying import NUMBER_REFUSALS, rectangles

# Two rectangles cover 1, but three are needed to part it.
STEPS = ((1, 1, 0), (1, 1, 1), (0, 1, 1))
# Five fools of 1 at most, but no four rectangles cover it.
HOLLOW = tuple(tuple(int(row != column) for column in range(4)) for row in range(4))
CROSS = ((1, 1, 0, 0), (0, 1, 1, 0), (0, 0, 1, 1), (1, 0, 0, 1))

COUNT_REFUSALS = [(count, BadParameter, {"value": count})
                  for count in (0, 37, -1, True, None, 2.0, "2", (2,), Touchy(), 10 ** 40)]


def cells_in(pair):
    return set(itertools.product(*pair))


def rectangles_with(grid, number):
    return [pair for pair in rectangles(grid)
            if all(grid[row][column] == number for row, column in cells_in(pair))]


def greatest_with(grid, number):
    found = rectangles_with(grid, number)
    return [pair for pair in found
            if not any(cells_in(pair) < cells_in(other) for other in found)]


def cells_with(grid, number):
    return {cell for cell in cells(grid) if grid[cell[0]][cell[1]] == number}


def covers_all(grid, number, value, exact):
    """Whether a tuple of pairs of SETs is a cover, or a parting."""
    found = rectangles_with(grid, number)
    if not all(pair in found for pair in value):
        return False
    counts = [sum(cell in cells_in(pair) for pair in value) for cell in cells_with(grid, number)]
    return all(count == 1 if exact else count > 0 for count in counts)


def fewest(grid, number, exact):
    """By all tuples of rectangles."""
    found = rectangles_with(grid, number) if exact else greatest_with(grid, number)
    for count in range(37):
        if any(covers_all(grid, number, some, exact)
               for some in itertools.combinations(found, count)):
            return count


def paper_is(grid, number, exact, most, left, paper):
    """Whether a thing of the form of a paper, all in it of the right kinds, is one."""
    found = rectangles_with(grid, number)
    if paper[0] == "fool":
        told = list(paper[1])
        if told != sorted(set(told)) or len(told) <= most or not set(told) <= left:
            return False
        return not any(cells_in(pair) >= {one, other} and (not exact or cells_in(pair) <= left)
                       for one, other in itertools.combinations(told, 2) for pair in found)
    if most == 0 or paper[1] not in left:
        return False
    if exact:
        wanted = [pair for pair in found if paper[1] in cells_in(pair) and cells_in(pair) <= left]
    else:
        wanted = [pair for pair in greatest_with(grid, number) if paper[1] in cells_in(pair)]
    return len(paper[2]) == len(wanted) and all(
        paper_is(grid, number, exact, most - 1, left - cells_in(pair), one)
        for pair, one in zip(sorted(wanted), paper[2]))


def is_right_paper(grid, number, exact, count, paper):
    return paper_is(grid, number, exact, count - 1, cells_with(grid, number), paper)


def papers_bent(dice, grid, paper, times=3):
    """The paper with its things changed, left out, put in, in another order."""
    some = cells(grid)
    if paper[0] == "fool":
        told = paper[1]
        out = [told[:at] + told[at + 1:] for at in range(len(told))]
        out += [told[::-1], told + told[-1:], told[:1] + told]
        for _ in range(times):
            other = some[dice.below(len(some))]
            at = dice.below(len(told))
            out.append(told[:at] + (other,) + told[at + 1:])
            out.append(tuple(sorted(set(told) | {other})))
        return [("fool", one) for one in out] + [("cell", told[0], ())]
    _, cell, papers = paper
    out = [("cell", other, papers) for other in some if other != cell]
    for at in range(len(papers)):
        out.append(("cell", cell, papers[:at] + papers[at + 1:]))
        out.append(("cell", cell, papers[:at] + papers[at:at + 1] + papers[at:]))
        out.append(("cell", cell, papers[at:] + papers[:at]))
        bent = papers_bent(dice, grid, papers[at], times)
        for one in (bent[dice.below(len(bent))] for _ in range(times)):
            out.append(("cell", cell, papers[:at] + (one,) + papers[at + 1:]))
    return out


def some_grids(dice, count, most):
    """Grids with few integers, some of which have one of them nearly everywhere."""
    out = [GRID, STEPS, ((7,),), ((1, 1), (1, 1)), ((1, 0, 1),), ((1,), (1,), (2,))]
    while len(out) < count:
        grid = thrown_grid(dice, limit=2 + dice.below(4), most=most)
        out.append(tuple(tuple(min(one, 1) if dice.below(2) else one for one in line)
                         for line in grid))
    return out


class Covering:
    """What is tested of covers and of partings alike."""

    exact = None
    most = None
    judge = None
    least = None
    judge_paper = None
    judge_least = None

    def told(self, grid, number):
        """The told triple, all of which is right."""
        count, found, paper = answer = type(self).least(grid, number)
        self.assertEqual(len(answer), 3)
        self.assertEqual(len(found), count)
        self.assertTrue(covers_all(grid, number, found, self.exact))
        if count == 0:
            self.assertIsNone(paper)
        else:
            self.assertTrue(is_right_paper(grid, number, self.exact, count, paper))
        return answer

    def test_judged_by_the_words(self):
        dice = Dice(161)
        seen = set()
        for grid in some_grids(dice, 30, 3):
            for number in (0, 1, 2, 9):
                found = rectangles_with(grid, number)
                for _ in range(20):
                    some = tuple(found[dice.below(len(found))] for _ in range(dice.below(4)) if found)
                    wanted = covers_all(grid, number, some, self.exact)
                    self.assertIs(type(self).judge(grid, number, some), wanted)
                    seen.add((wanted, len(some)))
        self.assertLessEqual({(True, 0), (True, 1), (True, 2), (True, 3), (False, 0), (False, 3)}, seen)

    def test_right_ones_changed(self):
        dice = Dice(162)
        for grid in some_grids(dice, 25, 4):
            for number in (0, 1):
                good = type(self).least(grid, number)[1]
                judge = type(self).judge
                for order in itertools.islice(itertools.permutations(good), 30):
                    self.assertIs(judge(grid, number, order), True)
                others = [good[:at] + good[at + 1:] for at in range(len(good))]
                others += [good + good[at:at + 1] for at in range(len(good))]
                for at, (rows, columns) in enumerate(good):
                    for pair in ((rows[1:], columns), (rows, columns[:-1]), ((), columns), (rows, ()),
                                 (rows + (len(grid),), columns), (rows, (-1,) + columns),
                                 (rows, columns + (len(grid[0]),)), ((0,), (0,))):
                        others.append(good[:at] + (pair,) + good[at + 1:])
                for pair in rectangles_with(grid, number) + rectangles_with(grid, 1 - number):
                    others.append(good + (pair,))
                for other in others:
                    self.assertIs(judge(grid, number, other),
                                  covers_all(grid, number, other, self.exact))

    def test_what_is_no_tuple_of_rectangles(self):
        judge = type(self).judge
        good = (((0,), (0, 1)), ((1,), (0, 1)))
        grid = ((1, 1), (1, 1))
        self.assertIs(judge(grid, 1, good), True)
        self.assertIs(judge(grid, 0, ()), True)
        self.assertIs(judge(grid, 1, ()), False)
        self.assertIs(judge(grid, 0, good), False)
        for pair in (
            [(1,), (0, 1)], ([1], (0, 1)), ((1,), [0, 1]), ((1,), (1, 0)), ((1,), (0, 0, 1)),
            ((True,), (0, 1)), ((1,), (False, 1)), ((1.0,), (0, 1)), ((1,),), ((1,), (0, 1), ()),
            ((1, Touchy()), (0, 1)), ((1,), (0, Touchy())), ((2,), (0, 1)), ((-1,), (0, 1)), (1, (0, 1)),
            ((1,), "01"), (("1",), (0, 1)), ((1, 2), (0, 1)), ((1,), (0, 1, 2)), ((), (0, 1)), ((1,), ()),
        ):
            self.assertIs(judge(grid, 1, (good[0], pair)), False)
            self.assertIs(judge(grid, 1, (pair, good[0])), False)
            self.assertIs(judge(grid, 1, good + (pair,)), False)
        for value in STRANGE + [list(good), good[0], set(good), 0, 1]:
            self.assertIs(judge(grid, 1, value), False)
            self.assertIs(judge(grid, 1, (value,)), False)
            self.assertIs(judge(grid, 1, (good[0], (value, (0, 1)))), False)
            self.assertIs(judge(grid, 1, (good[0], ((1,), value))), False)
            self.assertIs(judge(grid, 0, value), type(value) is tuple and len(value) == 0)

    def test_least_by_all_tuples(self):
        dice = Dice(163)
        seen = set()
        for grid in some_grids(dice, 45, 3) + [HOLLOW, CROSS]:
            for number in (0, 1, 5):
                wanted = fewest(grid, number, self.exact) if grid not in (HOLLOW, CROSS) else 4
                if grid in (HOLLOW, CROSS) and number != 1:
                    continue
                answer = self.told(grid, number)
                self.assertEqual(answer[0], wanted)
                self.assertIs(type(self).judge_least(grid, number, answer), True)
                seen.add(wanted)
                if wanted > 0:
                    self.assertEqual(
                        type(self).judge_paper(grid, number, wanted, answer[2]), True)
                else:
                    self.assertEqual(answer, (0, (), None))
        self.assertLessEqual({0, 1, 2, 3, 4}, seen)

    def test_no_cell_with_the_integer(self):
        for grid in (GRID, STEPS, HOLLOW):
            for number in range(2, 10):
                self.assertEqual(type(self).least(grid, number), (0, (), None))
                self.assertIs(type(self).judge_least(grid, number, (0, (), None)), True)
                for value in ((0, (), ()), (0, (), ("fool", ())), (False, (), None), (0, [], None),
                              (1, (), ("fool", ((0, 0),))), (0, (((0,), (0,)),), None)):
                    self.assertIs(type(self).judge_least(grid, number, value), False)
                for paper in (None, (), ("fool", ()), ("fool", ((0, 0),)), ("cell", (0, 0), ())):
                    for count in (1, 2, 36):
                        self.assertIs(type(self).judge_paper(grid, number, count, paper), False)

    def test_too_great_grids(self):
        most = type(self).most
        for lines, columns in ((most, most), (1, most), (most, 1)):
            self.told(((3,) * columns,) * lines, 3)
        for lines, columns in ((most + 1, 1), (1, most + 1), (6, 6), (6, 1), (most + 1, most)):
            grid = ((3,) * columns,) * lines
            for number in (3, 4):
                self.refused(TooGreat, {"most": most}, type(self).least, grid, number)
            self.refused(BadParameter, {"value": 10}, type(self).least, grid, 10)
            one = ((tuple(range(lines)), tuple(range(columns))),)
            self.assertIs(type(self).judge(grid, 3, one), True)
            value = (1, one, ("fool", ((0, 0),)))
            self.assertIs(type(self).judge_least(grid, 3, value), True)
            self.assertIs(type(self).judge_least(grid, 4, value), False)
            self.assertIs(type(self).judge_paper(grid, 3, 1, ("fool", ((lines - 1, columns - 1),))), True)

    def test_six_rows_and_columns(self):
        same = tuple(tuple(int(row == column) for column in range(6)) for row in range(6))
        ones = tuple(((at,), (at,)) for at in range(6))
        fool = ("fool", tuple((at, at) for at in range(6)))
        self.assertIs(type(self).judge_least(same, 1, (6, ones, fool)), True)
        self.assertIs(type(self).judge_least(same, 1, (6, ones[::-1], fool)), True)
        self.assertIs(type(self).judge_least(same, 1, (5, ones, fool)), False)
        for count in range(1, 37):
            self.assertIs(type(self).judge_paper(same, 1, count, fool), count <= 6)
        # Each cell lies in one rectangle alone.
        paper = ("cell", (0, 0), (("cell", (2, 2), (("fool", ((1, 1), (3, 3), (4, 4), (5, 5))),)),))
        self.assertIs(type(self).judge_paper(same, 1, 6, paper), True)
        self.assertIs(type(self).judge_paper(same, 1, 7, paper), False)
        self.assertIs(type(self).judge_least(same, 1, (6, ones, paper)), True)

    def test_papers_changed(self):
        dice = Dice(164)
        seen = set()
        for grid in some_grids(dice, 14, 3) + [HOLLOW, CROSS]:
            for number in (0, 1):
                count, _, paper = type(self).least(grid, number)
                if count == 0:
                    continue
                for other in papers_bent(dice, grid, paper):
                    wanted = is_right_paper(grid, number, self.exact, count, other)
                    self.assertIs(type(self).judge_paper(grid, number, count, other), wanted)
                    seen.add((wanted, other[0]))
                for other in (count - 1, count + 1, 36):
                    if other > 0:
                        wanted = is_right_paper(grid, number, self.exact, other, paper)
                        self.assertIs(type(self).judge_paper(grid, number, other, paper), wanted)
        self.assertEqual(len(seen), 4)

    def test_right_papers_that_are_not_told(self):
        """All papers of a small grid that go by cells as long as they can, by any cell."""
        for grid, number in ((GRID, 0), (STEPS, 1), (((1, 0, 1), (0, 1, 1)), 1)):
            count = type(self).least(grid, number)[0]
            for first in sorted(cells_with(grid, number)):
                paper = self.by_cells(grid, number, cells_with(grid, number), count - 1, first)
                self.assertTrue(is_right_paper(grid, number, self.exact, count, paper))
                self.assertIs(type(self).judge_paper(grid, number, count, paper), True)

    def by_cells(self, grid, number, left, most, first):
        if most == 0 or first not in left:
            fools = [some for some in itertools.combinations(sorted(left), most + 1)
                     if paper_is(grid, number, self.exact, most, left, ("fool", some))]
            return ("fool", fools[-1])
        found = rectangles_with(grid, number) if self.exact else greatest_with(grid, number)
        found = [pair for pair in sorted(found) if first in cells_in(pair)
                 and (not self.exact or cells_in(pair) <= left)]
        papers = [self.by_cells(grid, number, left - cells_in(pair), most - 1,
                                max(left - cells_in(pair))) for pair in found]
        return ("cell", first, tuple(papers))

    def test_papers_of_any_kind(self):
        judge = type(self).judge_paper
        deep = type(self).least(HOLLOW, 1)[2]
        self.assertEqual(deep[0], "cell")
        for value in STRANGE:
            for count in (1, 2, 36):
                self.assertIs(judge(GRID, 0, count, value), False)
            self.assertIs(judge(GRID, 0, 2, ("fool", value)), False)
            self.assertIs(judge(GRID, 0, 2, ("fool", ((0, 0), value))), False)
            self.assertIs(judge(GRID, 0, 1, ("fool", ((0, value),))), False)
            self.assertIs(judge(GRID, 0, 1, ("fool", ((value, 0),))), False)
            self.assertIs(judge(GRID, 0, 2, (value, ((0, 0), (1, 1)))), False)
            self.assertIs(judge(HOLLOW, 1, 4, ("cell", value, deep[2])), False)
            self.assertIs(judge(HOLLOW, 1, 4, ("cell", (value, 1), deep[2])), False)
            self.assertIs(judge(HOLLOW, 1, 4, deep[:2] + (value,)), False)
            self.assertIs(judge(HOLLOW, 1, 4, deep[:2] + (deep[2][:-1] + (value,),)), False)
            self.assertIs(judge(HOLLOW, 1, 4, (value,) + deep[1:]), False)
        self.assertIs(judge(HOLLOW, 1, 4, deep), True)
        for value in (list(deep), deep[:2] + (list(deep[2]),), deep + ((),), deep[:2], ("cells",) + deep[1:],
                      ("cell", list(deep[1]), deep[2]), ("cell", deep[1] + (0,), deep[2]),
                      (TouchyText("cell"),) + deep[1:], ("Fool", ((0, 1),))):
            self.assertIs(judge(HOLLOW, 1, 4, value), False)
        good = ((0, 0), (1, 1))
        self.assertIs(judge(GRID, 0, 2, ("fool", good)), True)
        for value in (("fool", list(good)), ["fool", good], ("fool", good, ()), ("fool",), ("fool", good[::-1]),
                      ("fool", ((0, 0), [1, 1])), ("fool", ((0, 0), (1, True))), ("fool", ((False, 0), (1, 1))),
                      ("fool", ((0, 0), (1, 1.0))), ("fool", ((0, 0), (1, 1), (1, 1))), ("fool", ((0, 0), (1, 2))),
                      ("fool", ((-1, 0), (1, 1))), ("fool", ((0, 0), (2, 1))), ("fool", ((0, 0), (1, 1, 0))),
                      (TouchyText("fool"), good), ("fool", ((0, 0), (0, 1)))):
            self.assertIs(judge(GRID, 0, 2, value), False)

    def test_cells_within_and_without(self):
        judge = type(self).judge_paper
        for grid, number in ((GRID, 0), (GRID, 1), (((1, 0, 1), (0, 1, 1)), 1), (((1,), (0,)), 1)):
            for cell in itertools.product(range(-3, 6), repeat=2):
                wanted = cell in cells_with(grid, number)
                self.assertIs(judge(grid, number, 1, ("fool", (cell,))), wanted)
                if not wanted:
                    for papers in ((), (("fool", (min(cells_with(grid, number)),)),)):
                        self.assertIs(judge(grid, number, 2, ("cell", cell, papers)), False)

    def test_no_cells_behind_nought(self):
        """A paper by a cell is for one rectangle at least."""
        for grid in (((1, 0),), GRID):
            paper = ("cell", (0, 1), (("fool", ()),))
            self.assertIs(type(self).judge_paper(grid, grid[0][1], 1, paper), False)
            self.assertIs(type(self).judge_paper(grid, grid[0][1], 1, ("cell", (0, 1), (paper,))), False)
        paper = ("cell", (1, 0), (("cell", (0, 1), (("fool", ()),)),))
        self.assertIs(type(self).judge_paper(GRID, 1, 2, paper), False)
        self.assertIs(type(self).judge_paper(GRID, 1, 1, ("fool", ())), False)

    def test_triples_changed(self):
        dice = Dice(165)
        judge = type(self).judge_least
        for grid in some_grids(dice, 12, 3) + [HOLLOW]:
            count, found, paper = type(self).least(grid, 1)
            if count == 0:
                continue
            for other in (count - 1, count + 1, float(count), None, (count,), str(count), -1):
                self.assertIs(judge(grid, 1, (other, found, paper)), False)
            for at in range(count):
                self.assertIs(judge(grid, 1, (count, found[:at] + found[at + 1:], paper)), False)
                self.assertIs(judge(grid, 1, (count - 1, found[:at] + found[at + 1:], paper)), False)
                self.assertIs(judge(grid, 1, (count + 1, found + found[at:at + 1], paper)), False)
                self.assertIs(judge(grid, 1, (count, found + found[at:at + 1], paper)), False)
            for other in papers_bent(dice, grid, paper, 1):
                wanted = is_right_paper(grid, 1, self.exact, count, other)
                self.assertIs(judge(grid, 1, (count, found, other)), wanted)
            for order in itertools.islice(itertools.permutations(found), 10):
                self.assertIs(judge(grid, 1, (count, order, paper)), True)
            for other in (None, (), 0):
                self.assertIs(judge(grid, 1, (count, found, other)), False)

    def test_triples_of_any_kind(self):
        judge = type(self).judge_least
        count, found, paper = good = type(self).least(STEPS, 1)
        self.assertIs(judge(STEPS, 1, good), True)
        for value in STRANGE:
            self.assertIs(judge(STEPS, 1, value), False)
            for at in range(3):
                self.assertIs(judge(STEPS, 1, good[:at] + (value,) + good[at + 1:]), False)
            self.assertIs(judge(STEPS, 1, (count, found[:-1] + (value,), paper)), False)
        for value in (list(good), good[:2], good + (None,), found, paper, (count, list(found), paper)):
            self.assertIs(judge(STEPS, 1, value), False)
        one = type(self).least(((1, 0),), 1)
        self.assertIs(judge(((1, 0),), 1, one), True)
        self.assertIs(judge(((1, 0),), 1, (True,) + one[1:]), False)

    def test_refused_in_order(self):
        good = type(self).least(GRID, 0)
        self.check_calls(type(self).least, ("grid", "number"), (GRID, 0),
                         [GRID_REFUSALS, NUMBER_REFUSALS])
        for function, right in ((type(self).judge, good[1]), (type(self).judge_least, good)):
            for value in (right, None, Touchy()):
                self.check_calls(function, ("grid", "number", "value"), (GRID, 0, value),
                                 [GRID_REFUSALS, NUMBER_REFUSALS])
        for value in (good[2], None, Touchy()):
            self.check_calls(type(self).judge_paper, ("grid", "number", "count", "value"),
                             (GRID, 0, 2, value), [GRID_REFUSALS, NUMBER_REFUSALS, COUNT_REFUSALS])
        for count in (1, 36):
            self.assertIs(type(self).judge_paper(GRID, 0, count, None), False)
