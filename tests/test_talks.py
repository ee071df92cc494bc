"""[5], [8], [17] to [20]: talks checked, what is said, where one comes, what is counted."""

import itertools
import unittest

from saidbetween.errors import BadParameter, BadQuestion, BadTalk, TooGreat
from saidbetween.questions import parted, turned
from saidbetween.talks import (
    bits_of, ends_of, first_failing, is_lean, is_talk, need_talk, pairs_at, said, turns_of,
)
from tests.helpers import (
    all_signs_of, Case, chain, Dice, EXAMPLE, EXAMPLE_FORMULA, EXAMPLE_TALK, full, is_branch, put,
    QUESTION_REFUSALS, sign_is_so, small_questions, STRANGE, subsets, thing_at, things,
    thrown_question, thrown_talk, Touchy, WRONG_LOTS,
)

SIGNS = EXAMPLE[1]
SIGN = (0, 1)
FEW = (2, ((0, 1), (1, 0)), (1, 2), (0, 3))
STRANGE_WORD = [thing for thing in STRANGE if type(thing) is str and thing == "yes"][0]

WRONG_TALKS = [
    (None, ()), ((0, 2), ()), (("yes", SIGN, SIGN), ()), (["yes", (), SIGN, SIGN], ()),
    (("yes", [], SIGN, SIGN), (1,)), (("no", (0,), SIGN, None), (3,)),
    (("no", (), ("yes", (4,), SIGN, SIGN), 0), (2, 1)), (EXAMPLE_FORMULA, ()),
]
TALK_REFUSALS = [(value, BadTalk, {"place": path}) for value, path in WRONG_TALKS]


def long_one(depth, side, inmost, other=SIGN, heads=(("yes", (1,)), ("no", ()))):
    """A talk of this many bits, all of whose bits lie in one part each."""
    return chain(depth, heads, side, inmost, other)


def wide_one(ends, head=("yes", (1,))):
    """A talk with so many ends, of as few bits as can be."""
    return full(ends, head, SIGN)


def followed(talk, yes, no):
    """What is said, and the end, by the words of the document."""
    spoken = []
    while is_branch(talk):
        row = {"yes": yes, "no": no}[talk[0]]
        spoken.append((talk[0], int(row in talk[1])))
        talk = talk[2] if row in talk[1] else talk[3]
    return (tuple(spoken), talk)


def failing(question, talk):
    """All pairs whose end does not part them, in their order."""
    out = []
    for pair in itertools.product(question[2], question[3]):
        sign = followed(talk, *pair)[1]
        if not sign_is_so(sign, pair[0]) or sign_is_so(sign, pair[1]):
            out.append(pair)
    return out


def paths_to_ends(talk):
    return [path for path in things(talk) if not is_branch(thing_at(talk, path))]


def told_talk(dice, rows, question):
    """A talk that tells a question with all signs, with parts to which nobody comes."""
    yes, no = rows
    many, signs = question[:2]
    good = [sign for sign in signs if parted(question, sign, yes, no)]
    if good:
        end = good[dice.below(len(good))]
        if dice.below(3):
            return end
        head = (("yes", "no")[dice.below(2)],)
        rest = signs[dice.below(len(signs))]
        side = yes if head == ("yes",) else no
        if dice.below(2):
            return head + (tuple(sorted(side)), end, ("no", (0,), rest, rest))
        out = tuple(row for row in range(2 ** many) if row not in side)
        return head + (out, rest, end)
    hand = dice.below(2) if len(yes) > 1 and len(no) > 1 else int(len(yes) == 1)
    lots = (yes, no)
    while True:
        lot = dice.some(range(2 ** many))
        inside = tuple(row for row in lots[hand] if row in lot)
        outside = tuple(row for row in lots[hand] if row not in lot)
        if inside and outside:
            break
    first = (inside, no) if hand == 0 else (yes, inside)
    second = (outside, no) if hand == 0 else (yes, outside)
    return (("yes", "no")[hand], lot, told_talk(dice, first, question),
            told_talk(dice, second, question))


def samples():
    """Questions with talks that tell them and that do not."""
    dice = Dice(11)
    out = [(EXAMPLE, EXAMPLE_TALK), (EXAMPLE, SIGN)]
    for question in small_questions(1) + small_questions(2):
        if question[1] and dice.below(6) == 0:
            out.append((question, thrown_talk(dice, question, 1 + dice.below(7))))
    for many in (2, 3, 4, 8):
        for _ in range(8 if many < 8 else 3):
            question = thrown_question(dice, many, True)
            out.append((question, thrown_talk(dice, question, 1 + dice.below(9))))
            if many < 8:
                out.append((question, told_talk(dice, question[2:], question)))
    return out


class NeedTalkTest(Case):

    def test_good_ones_are_returned_themselves(self):
        for question, talk in samples():
            self.assertIs(need_talk(question, talk), talk)

    def test_whether_it_tells_is_not_asked(self):
        for sign in SIGNS:
            self.assertIs(need_talk(EXAMPLE, sign), sign)
        talk = ("no", (0, 1, 2, 3), SIGN, ("yes", (), SIGN, SIGN))
        self.assertIs(need_talk(EXAMPLE, talk), talk)

    def test_signs_of_the_question_alone(self):
        for sign in all_signs_of(3):
            if sign in FEW[1]:
                self.assertIs(need_talk(FEW, sign), sign)
            else:
                self.refused(BadTalk, {"place": ()}, need_talk, FEW, sign)
                self.refused(BadTalk, {"place": (3, 2)}, need_talk, FEW,
                             ("no", (), SIGN, ("yes", (1,), sign, sign)))

    def test_things_of_any_kind(self):
        for thing in STRANGE:
            self.refused(BadTalk, {"place": ()}, need_talk, FEW, thing)
            self.refused(BadTalk, {"place": (2,)}, need_talk, FEW, ("yes", (), thing, SIGN))
            self.refused(BadTalk, {"place": (3,)}, need_talk, FEW, ("no", (1,), SIGN, thing))
            self.refused(BadTalk, {"place": (3, 2)}, need_talk, FEW,
                         ("no", (1,), SIGN, ("yes", (2,), thing, None)))
            if thing is not STRANGE_WORD:
                self.refused(BadTalk, {"place": ()}, need_talk, FEW, (thing, (), SIGN, SIGN))

    def test_formulas_and_trees_are_no_talks(self):
        for thing in (EXAMPLE_FORMULA, ("or", (), SIGN, SIGN), ("ask", 0, 1, 0), 0, 1, "yes"):
            self.refused(BadTalk, {"place": ()}, need_talk, EXAMPLE, thing)

    def test_lots(self):
        for hand in ("yes", "no"):
            for lot in WRONG_LOTS:
                self.refused(BadTalk, {"place": (1,)}, need_talk, EXAMPLE, (hand, lot, SIGN, SIGN))
                self.refused(BadTalk, {"place": (3, 1)}, need_talk, EXAMPLE,
                             ("no", (), SIGN, (hand, lot, None, None)))
            for lot in subsets(range(4)):
                talk = (hand, lot, SIGN, SIGN)
                self.assertIs(need_talk(EXAMPLE, talk), talk)

    def test_lots_have_rows_of_so_many_bits(self):
        for many in (1, 8):
            question = (many, all_signs_of(many), (1,), (0,))
            talk = ("yes", tuple(range(2 ** many)), SIGN, SIGN)
            self.assertIs(need_talk(question, talk), talk)
            for lot in ((2 ** many,), tuple(range(2 ** many + 1))):
                self.refused(BadTalk, {"place": (1,)}, need_talk, question,
                             ("yes", lot, SIGN, SIGN))

    def test_the_first_wrong_thing_of_the_walk_is_told(self):
        talk = ("yes", (1,), ("no", (0,), ("yes", (), SIGN, SIGN), SIGN),
                ("no", (3,), SIGN, ("no", (), SIGN, SIGN)))
        paths = things(talk)
        places = []
        for path in paths:
            places.append((path, None))
            if is_branch(thing_at(talk, path)):
                places.append((path + (1,), (2, 1)))
        for at, (path, wrong) in enumerate(places):
            one = put(talk, path, wrong)
            self.refused(BadTalk, {"place": path}, need_talk, EXAMPLE, one)
            for later, other in places[at + 1:]:
                if later[:len(path)] != path:
                    two = put(put(talk, later, other), path, wrong)
                    self.refused(BadTalk, {"place": path}, need_talk, EXAMPLE, two)

    def test_399_talks_and_the_401st(self):
        self.assertEqual(len(things(wide_one(200))), 399)
        self.assertIsNotNone(need_talk(EXAMPLE, wide_one(200)))
        self.refused(TooGreat, {"most": 400}, need_talk, EXAMPLE, wide_one(201))
        self.refused(TooGreat, {"most": 400}, need_talk, EXAMPLE, wide_one(500))

    def test_the_400th_talk_is_looked_at_and_the_401st_is_not(self):
        talk = wide_one(201)
        paths = things(talk)
        self.assertEqual(len(paths), 401)
        for thing in (None, SIGN, (9, 9), ("yes", None, None, None), Touchy(), ["yes"]):
            self.refused(TooGreat, {"most": 400}, need_talk, EXAMPLE, put(talk, paths[400], thing))
        self.refused(BadTalk, {"place": paths[399]}, need_talk, EXAMPLE,
                     put(talk, paths[399], None))
        self.refused(BadTalk, {"place": paths[399] + (1,)}, need_talk, EXAMPLE,
                     put(talk, paths[399], ("yes", [], SIGN, SIGN)))
        for path in paths[1:399:40]:
            self.refused(BadTalk, {"place": path}, need_talk, EXAMPLE, put(talk, path, 0))
        behind = put(talk, (), talk[:3] + (None,))
        self.refused(BadTalk, {"place": (3,)}, need_talk, EXAMPLE, behind)

    def test_the_same_part_many_times(self):
        talk = SIGN
        for _ in range(40):
            talk = ("yes", (), talk, talk)
        self.refused(TooGreat, {"most": 400}, need_talk, EXAMPLE, talk)

    def test_60_and_61_words_on_a_way(self):
        for side in (1, 2):
            for heads in ((("yes", (1,)),), (("no", ()),), (("no", (0,)), ("yes", (2,)))):
                good = long_one(60, side, SIGN, heads=heads)
                self.assertIs(need_talk(EXAMPLE, good), good)
                self.assertEqual(bits_of(EXAMPLE, good), 60)
                self.refused(TooGreat, {"most": 60}, need_talk, EXAMPLE,
                             long_one(61, side, SIGN, heads=heads))
                for inmost in (("yes", (), None, None), ("no", None, SIGN, Touchy()),
                               ("yes", [], [], [])):
                    self.refused(TooGreat, {"most": 60}, need_talk, EXAMPLE,
                                 long_one(60, side, inmost, heads=heads))

    def test_wrong_things_at_60(self):
        for side in (1, 2):
            for inmost in (None, (9, 9), ("yes", SIGN, SIGN), ("or", (), SIGN, SIGN),
                           ["no", (), SIGN, SIGN], ("or", SIGN, SIGN)):
                self.refused(BadTalk, {"place": (side + 1,) * 60}, need_talk, EXAMPLE,
                             long_one(60, side, inmost))
            self.refused(BadTalk, {"place": (side + 1,) * 59 + (1,)}, need_talk, EXAMPLE,
                         long_one(59, side, ("no", 0, SIGN, SIGN)))

    def test_wrong_things_ahead_of_and_behind_what_is_too_deep(self):
        deep = long_one(61, 1, SIGN)
        self.refused(TooGreat, {"most": 60}, need_talk, EXAMPLE, long_one(60, 1, deep, None))
        self.refused(BadTalk, {"place": (2,)}, need_talk, EXAMPLE, ("yes", (), None, deep))
        self.refused(BadTalk, {"place": (1,)}, need_talk, EXAMPLE, ("yes", None, deep, None))
        self.refused(TooGreat, {"most": 60}, need_talk, EXAMPLE, ("yes", (), deep, None))
        self.refused(BadTalk, {"place": (2,)}, need_talk, EXAMPLE, long_one(61, 2, SIGN, None))
        self.refused(TooGreat, {"most": 60}, need_talk, EXAMPLE, long_one(5000, 1, None, None))

    def test_too_many_and_too_deep(self):
        many = wide_one(250)
        deep = long_one(61, 2, SIGN)
        self.refused(TooGreat, {"most": 400}, need_talk, EXAMPLE, ("yes", (), many, deep))
        self.refused(TooGreat, {"most": 60}, need_talk, EXAMPLE, ("yes", (), deep, many))
        # Where the first word with a path of 60 things is the 401st talk, this is told.
        deep = long_one(59, 2, ("no", (), SIGN, SIGN))
        for ends, most in ((139, 60), (140, 60), (141, 400)):
            talk = ("yes", (1,), wide_one(ends), deep)
            self.assertEqual(things(talk).index((3,) * 60), 2 * ends + 118)
            self.refused(TooGreat, {"most": most}, need_talk, EXAMPLE, talk)

    def test_refused_in_order(self):
        wholes = (need_talk, first_failing, pairs_at, bits_of, ends_of, turns_of, is_lean)
        for function in wholes:
            self.check_calls(function, ("question", "talk"), (EXAMPLE, EXAMPLE_TALK),
                             [QUESTION_REFUSALS, TALK_REFUSALS])
            self.refused(TooGreat, {"most": 400}, function, EXAMPLE, wide_one(201))
            self.refused(TooGreat, {"most": 60}, function, EXAMPLE, long_one(61, 1, SIGN))
            self.refused(BadQuestion, {"place": ()}, function, None, wide_one(201))


class SaidTest(Case):

    def test_by_the_words_for_all_pairs(self):
        for question, talk in samples():
            for yes, no in itertools.product(question[2][:12], question[3][:12]):
                self.assertEqual(said(question, talk, yes, no), followed(talk, yes, no))

    def test_example(self):
        self.assertEqual(said(EXAMPLE, EXAMPLE_TALK, 2, 3), ((("yes", 0), ("no", 0)), (0, 0)))
        self.assertEqual(said(EXAMPLE, EXAMPLE_TALK, 1, 0), ((("yes", 1), ("no", 1)), (0, 1)))
        self.assertEqual(said(EXAMPLE, SIGN, 1, 0), ((), SIGN))

    def test_bits_are_integers(self):
        told = said(EXAMPLE, EXAMPLE_TALK, 2, 0)[0]
        self.assertTrue(all(type(bit) is int for _, bit in told))

    def test_refused_in_order(self):
        strange = [None, True, False, -1, 4, 1.0, 2.0, "1", (1,), [1], Touchy(), 10 ** 40]
        yes = [(row, BadParameter, {"value": row}) for row in strange + [0, 3]]
        no = [(row, BadParameter, {"value": row}) for row in strange + [1, 2]]
        self.check_calls(said, ("question", "talk", "yes", "no"), (EXAMPLE, EXAMPLE_TALK, 2, 3),
                         [QUESTION_REFUSALS, TALK_REFUSALS, yes, no])
        self.refused(TooGreat, {"most": 400}, said, EXAMPLE, wide_one(201), 0, 0)


class TellingTest(Case):

    def test_first_failing_and_is_talk(self):
        seen = set()
        for question, talk in samples():
            pairs = failing(question, talk)
            self.assertEqual(first_failing(question, talk), pairs[0] if pairs else None)
            self.assertIs(is_talk(question, talk), not pairs)
            seen.add(bool(pairs))
        self.assertEqual(seen, {True, False})

    def test_the_first_pair_need_not_be_at_the_first_end(self):
        talk = ("yes", (2,), (0, 1), ("no", (3,), (1, 1), (1, 1)))
        self.assertEqual(first_failing(EXAMPLE, talk), (1, 0))
        talk = ("yes", (1,), ("no", (3,), (0, 1), (0, 1)), (1, 1))
        self.assertEqual(first_failing(EXAMPLE, talk), (1, 3))

    def test_where_nobody_comes_any_sign_will_do(self):
        talk = ("no", (1, 2), ("yes", (0,), (0, 0), (0, 1)), EXAMPLE_TALK)
        self.assertIsNone(first_failing(EXAMPLE, talk))
        self.assertIs(is_talk(EXAMPLE, talk), True)

    def test_row_0_on_both_hands(self):
        question = (1, ((0, 0), (0, 1)), (0,), (1,))
        self.assertEqual(first_failing(question, (0, 1)), (0, 1))
        self.assertIsNone(first_failing(question, (0, 0)))
        self.assertEqual(first_failing((1, ((0, 0), (0, 1)), (1,), (0,)), (0, 0)), (1, 0))

    def test_eight_bits_with_all_rows(self):
        yes = tuple(row for row in range(256) if row % 2)
        no = tuple(row for row in range(256) if not row % 2)
        question = (8, all_signs_of(8), yes, no)
        self.assertIs(is_talk(question, (0, 1)), True)
        self.assertEqual(first_failing(question, (1, 1)), (1, 0))
        self.assertIs(is_talk(question, full(200, ("yes", tuple(range(256))), (0, 1))), True)

    def test_values_of_any_kind(self):
        for value in STRANGE + [value for value, _ in WRONG_TALKS] + [EXAMPLE_FORMULA]:
            self.assertIs(is_talk(EXAMPLE, value), False)
            self.assertIs(is_talk(EXAMPLE, ("yes", (), value, EXAMPLE_TALK)), False)
            self.assertIs(is_talk(EXAMPLE, ("yes", value, SIGN, SIGN)), False)

    def test_too_great_ones_are_none(self):
        question = (1, ((0, 0), (0, 1)), (1,), (0,))
        for side in (1, 2):
            self.assertIs(is_talk(question, long_one(60, side, SIGN)), True)
            self.assertIs(is_talk(question, long_one(61, side, SIGN)), False)
        self.assertIs(is_talk(question, wide_one(200)), True)
        self.assertIs(is_talk(question, wide_one(201)), False)

    def test_refused(self):
        for value in (EXAMPLE_TALK, None, Touchy()):
            self.check_calls(is_talk, ("question", "value"), (EXAMPLE, value), [QUESTION_REFUSALS])


class ComingTest(Case):

    def test_by_the_words(self):
        for question, talk in samples():
            _, _, yes, no = question
            found = pairs_at(question, talk)
            paths = paths_to_ends(talk)
            self.assertEqual([sign for _, _, sign in found],
                             [thing_at(talk, path) for path in paths])
            for (a, b, sign), path in zip(found, paths):
                self.assertEqual((a, b), (self.coming(talk, path, "yes", yes),
                                          self.coming(talk, path, "no", no)))

    def coming(self, talk, path, hand, rows):
        """The rows of a hand that keep to a path."""
        for step in path:
            if talk[0] == hand:
                rows = tuple(row for row in rows if (row in talk[1]) == (step == 2))
            talk = talk[step]
        return rows

    def test_each_pair_comes_to_just_one_end(self):
        for question, talk in samples():
            found = pairs_at(question, talk)
            for pair in itertools.product(question[2][:9], question[3][:9]):
                here = [sign for a, b, sign in found if pair[0] in a and pair[1] in b]
                self.assertEqual(here, [followed(talk, *pair)[1]])
            parts = all(parted(question, sign, a, b) for a, b, sign in found if a and b)
            self.assertIs(is_talk(question, talk), parts)

    def test_example(self):
        self.assertEqual(
            pairs_at(EXAMPLE, EXAMPLE_TALK),
            (((1,), (0,), (0, 1)), ((1,), (3,), (1, 0)), ((2,), (0,), (1, 1)), ((2,), (3,), (0, 0))))
        self.assertEqual(pairs_at(EXAMPLE, SIGN), (((1, 2), (0, 3), SIGN),))
        self.assertEqual(pairs_at(EXAMPLE, ("yes", (0, 3), SIGN, (1, 1))),
                         (((), (0, 3), SIGN), ((1, 2), (0, 3), (1, 1))))


class CountedTest(Case):

    def turns(self, talk):
        """The most turns over all ways, each written out."""
        most = 0
        for path in paths_to_ends(talk):
            hands = []
            for at in range(len(path)):
                hands.append(thing_at(talk, path[:at])[0])
            most = max(most, len(list(itertools.groupby(hands))))
        return most

    def lean(self, talk, yes, no):
        if not is_branch(talk):
            return True
        rows = yes if talk[0] == "yes" else no
        inside = [row for row in rows if row in talk[1]]
        outside = [row for row in rows if row not in talk[1]]
        if not inside or not outside:
            return False
        if talk[0] == "yes":
            return self.lean(talk[2], inside, no) and self.lean(talk[3], outside, no)
        return self.lean(talk[2], yes, inside) and self.lean(talk[3], yes, outside)

    def test_by_the_words(self):
        seen = set()
        for question, talk in samples():
            paths = paths_to_ends(talk)
            bits = max(map(len, paths))
            self.assertEqual(bits_of(question, talk), bits)
            self.assertEqual(ends_of(question, talk), len(paths))
            self.assertEqual(turns_of(question, talk), self.turns(talk))
            lean = self.lean(talk, question[2], question[3])
            self.assertIs(is_lean(question, talk), lean)
            self.assertLessEqual(turns_of(question, talk), bits)
            self.assertLessEqual(len(paths), 2 ** bits)
            seen.add((lean, is_branch(talk)))
        self.assertEqual(len(seen), 3)

    def test_turns(self):
        for heads, turns in (
            ((("yes", ()),), 1), ((("no", ()),), 1), ((("yes", ()), ("no", ())), 60),
            ((("yes", ()), ("yes", ()), ("no", ())), 40),
        ):
            for side in (1, 2):
                self.assertEqual(turns_of(EXAMPLE, long_one(60, side, SIGN, heads=heads)), turns)
        self.assertEqual(turns_of(EXAMPLE, SIGN), 0)
        other = ("no", (), ("yes", (), SIGN, SIGN), SIGN)
        self.assertEqual(turns_of(EXAMPLE, ("yes", (), SIGN, other)), 3)
        self.assertEqual(turns_of(EXAMPLE, ("no", (), ("no", (), SIGN, SIGN), other)), 2)

    def test_example(self):
        self.assertEqual(bits_of(EXAMPLE, EXAMPLE_TALK), 2)
        self.assertEqual(ends_of(EXAMPLE, EXAMPLE_TALK), 4)
        self.assertEqual(turns_of(EXAMPLE, EXAMPLE_TALK), 2)
        self.assertIs(is_lean(EXAMPLE, EXAMPLE_TALK), True)
        self.assertIs(is_lean(EXAMPLE, ("yes", (0, 3), SIGN, SIGN)), False)
        self.assertIs(is_lean(EXAMPLE, ("yes", (1, 2), SIGN, SIGN)), False)
        self.assertIs(is_lean(EXAMPLE, ("no", (1, 2), SIGN, SIGN)), False)
        self.assertIs(is_lean(EXAMPLE, ("no", (0, 1), SIGN, SIGN)), True)

    def exchanged(self, talk):
        if not is_branch(talk):
            return (talk[0], 1 - talk[1])
        other = {"yes": "no", "no": "yes"}[talk[0]]
        return (other, talk[1], self.exchanged(talk[2]), self.exchanged(talk[3]))

    def test_the_turned_question(self):
        for question, talk in samples():
            there, back = turned(question), self.exchanged(talk)
            for function in (bits_of, ends_of, turns_of, is_lean, is_talk):
                self.assertEqual(function(there, back), function(question, talk))


if __name__ == "__main__":
    unittest.main()
