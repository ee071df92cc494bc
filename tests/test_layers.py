"""[31] to [34]: layers of talks, layer books, the fewest leaves by layers."""

import itertools
import unittest

from saidbetween.errors import BadParameter, BadTalk, TooGreat
from saidbetween.layers import fewest_by_layers, is_fewest_by_layers, is_layer_book, layers_from
from saidbetween.sizes import least_leaves
from saidbetween.talks import ends_of, is_talk
from tests.brute import (
    bent, can_questions, CHAIN_OF_FIVE, CHAIN_OF_SIX, ELEVEN, few_questions, first_pair_unparted,
    Formulas, is_ascending, is_within, LONE, no_sign_parts, partings, rectangles, TEN, TWELVE,
)
from tests.helpers import (
    all_signs_of, Case, chain, Dice, EXAMPLE, EXAMPLE_FORMULA, EXAMPLE_TALK, full, is_branch,
    QUESTION_REFUSALS, sign_is_so, small_questions, STRANGE, thrown_question, thrown_talk, Touchy,
    TouchyText,
)

HANDS = ("yes", "no")
OTHER = {"yes": "no", "no": "yes"}
STATES = list(itertools.product(range(1, 7), HANDS))

# Of the document's example, two layers from "yes".
BOOK = (
    (1, "no", 0, (1, 2), (0,)), (1, "no", 0, (1, 2), (3,)),
    (2, "yes", 2, (1,), (0, 3)), (2, "yes", 2, (2,), (0, 3)), (2, "yes", 4, (1, 2), (0, 3)),
    (1, "no", 2, (1,), (0, 3)), (1, "no", 2, (2,), (0, 3)),
    (2, "yes", 2, (1, 2), (0,)), (2, "yes", 2, (1, 2), (3,)),
)
BOOK = tuple(sorted(BOOK))

LAYERS_REFUSALS = [(layers, BadParameter, {"value": layers})
                   for layers in (0, 7, -1, True, False, None, 2.0, "2", (2,), Touchy(), 10 ** 40)]
TOUCHY_HAND = TouchyText("yes")
HAND_REFUSALS = [(hand, BadParameter, {"value": hand})
                 for hand in ["", "or", "Yes", "row", "other", b"yes", ("yes",), 0, True, None,
                              Touchy(), TOUCHY_HAND]]
LEAVES_REFUSALS = [(leaves, BadParameter, {"value": leaves})
                   for leaves in (-1, 1025, True, False, None, 4.0, "4", (4,), Touchy(), 10 ** 40)]


def has_layers(talk, layers, hand):
    """By the words of [31]."""
    if not is_branch(talk):
        return True
    if talk[0] == hand:
        return has_layers(talk[2], layers, hand) and has_layers(talk[3], layers, hand)
    return layers > 1 and has_layers(talk, layers - 1, OTHER[hand])


def number(leaves):
    return float("inf") if leaves == 0 else leaves


def says(book, layers, hand, yes, no):
    return max([number(entry[2]) for entry in book
                if entry[:2] == (layers, hand) and is_within(entry[3:], (yes, no))], default=1)


def stands(question, book, entry):
    """By the words of [33]."""
    layers, hand, leaves, yes, no = entry
    if leaves == 1:
        return True
    if not no_sign_parts(question, yes, no):
        return False
    if layers > 1 and says(book, layers - 1, OTHER[hand], yes, no) < number(leaves):
        return False
    parts = [((some, no), (rest, no)) for some, rest in partings(yes)]
    if hand == "no":
        parts = [((yes, some), (yes, rest)) for some, rest in partings(no)]
    return all(says(book, layers, hand, *one) + says(book, layers, hand, *other) >= number(leaves)
               for one, other in parts)


def is_right_book(question, layers, hand, leaves, book):
    return (is_ascending(book) and all(stands(question, book, entry) for entry in book)
            and says(book, layers, hand, *question[2:]) >= number(leaves))


def fewest(question, layers, hand, yes, no, known):
    """The fewest ends of all talks with at most so many layers, infinity if there is none."""
    at = (layers, hand, yes, no)
    if at not in known:
        best = float("inf") if no_sign_parts(question, yes, no) else 1
        if layers > 1:
            best = min(best, fewest(question, layers - 1, OTHER[hand], yes, no, known))
        parts = [((some, no), (rest, no)) for some, rest in partings(yes)]
        if hand == "no":
            parts = [((yes, some), (yes, rest)) for some, rest in partings(no)]
        for one, other in parts:
            best = min(best, fewest(question, layers, hand, *one, known)
                       + fewest(question, layers, hand, *other, known))
        known[at] = best
    return known[at]


class LayersFromTest(Case):

    def test_talks_of_all_shapes(self):
        dice = Dice(91)
        seen = set()
        for many in (1, 2, 3):
            for _ in range(60):
                question = thrown_question(dice, many, every_sign=True)
                talk = thrown_talk(dice, question, 1 + dice.below(14))
                for hand in HANDS:
                    least = next(layers for layers in range(1, 99) if has_layers(talk, layers, hand))
                    self.assertEqual(layers_from(question, talk, hand), least)
                    seen.add(least)
        self.assertLessEqual({1, 2, 3, 4, 5}, seen)

    def test_a_hand_that_does_not_speak(self):
        ends = [(0, 1), (1, 0)]
        only_yes = ("yes", (1,), ends[0], ("yes", (2,), ends[1], ends[0]))
        only_no = ("no", (1,), ("no", (), ends[1], ends[0]), ends[1])
        for talk, yes, no in (
            (ends[0], 1, 1), (only_yes, 1, 2), (only_no, 2, 1),
            (("yes", (), only_yes, only_no), 2, 3), (("no", (), only_yes, only_no), 3, 2),
            (("no", (), only_no, only_no), 2, 1), (("no", (), only_yes, only_yes), 3, 2),
            (("yes", (), ("no", (), only_yes, ends[0]), only_yes), 3, 4), (EXAMPLE_TALK, 2, 3),
        ):
            self.assertEqual(layers_from(EXAMPLE, talk, "yes"), yes)
            self.assertEqual(layers_from(EXAMPLE, talk, "no"), no)

    def test_the_deepest(self):
        talk = chain(60, [("no", ()), ("yes", (1,))], 2, (0, 1), (0, 1))
        self.assertEqual(layers_from(EXAMPLE, talk, "yes"), 60)
        self.assertEqual(layers_from(EXAMPLE, talk, "no"), 61)

    def test_refused_in_order(self):
        talks = [(None, BadTalk, {"place": ()}), (("yes", [], (0, 1), 0), BadTalk, {"place": (1,)}),
                 (EXAMPLE_FORMULA, BadTalk, {"place": ()})]
        self.check_calls(layers_from, ("question", "talk", "hand"), (EXAMPLE, EXAMPLE_TALK, "yes"),
                         [QUESTION_REFUSALS, talks, HAND_REFUSALS])
        for hand in ("yes", None):
            self.refused(TooGreat, {"most": 400}, layers_from, EXAMPLE,
                         full(201, ("yes", ()), (0, 1)), hand)
            self.refused(TooGreat, {"most": 60}, layers_from, EXAMPLE,
                         chain(61, [("no", ())], 2, (0, 1), (0, 1)), hand)


class FewestTest(Case):

    def check(self, question, layers, hand, wanted):
        answer = fewest_by_layers(question, layers, hand)
        self.assertIs(type(answer), tuple)
        leaves, talk, book = answer
        self.assertIs(type(leaves), int)
        self.assertEqual(leaves, wanted)
        if leaves == 0:
            self.assertIsNone(talk)
        else:
            self.assertIs(is_talk(question, talk), True)
            self.assertEqual(ends_of(question, talk), leaves)
            self.assertTrue(has_layers(talk, layers, hand))
        self.assertIs(is_layer_book(question, layers, hand, leaves, book), True)
        self.assertIs(is_fewest_by_layers(question, layers, hand, answer), True)
        return book

    def test_by_talks_and_by_formulas(self):
        dice = Dice(92)
        seen = set()
        for question in [LONE] + few_questions(dice, 30, 6):
            known = {}
            formulas = Formulas(question)
            for layers, hand in STATES:
                wanted = fewest(question, layers, hand, *question[2:], known)
                wanted = 0 if wanted == float("inf") else wanted
                self.assertEqual(formulas.fewest_by_layers(layers, hand), wanted)
                self.check(question, layers, hand, wanted)
                seen.add((layers, hand, wanted == 0))
        self.assertEqual(len(seen), 24)

    def test_more_layers_with_fewer_leaves(self):
        for question, told in (
            (CHAIN_OF_FIVE, {"yes": (0, 8, 6, 6, 5, 5), "no": (0, 6, 6, 5, 5, 5)}),
            (CHAIN_OF_SIX, {"yes": (0, 9, 8, 7, 7, 6), "no": (0, 9, 7, 7, 6, 6)}),
        ):
            for layers, hand in STATES:
                wanted = Formulas(question).fewest_by_layers(layers, hand)
                self.assertEqual(wanted, told[hand][layers - 1])
                self.check(question, layers, hand, wanted)

    def test_told_books_stand(self):
        for question in [EXAMPLE, LONE] + few_questions(Dice(93), 6, 5):
            for layers, hand in STATES:
                leaves, _, book = fewest_by_layers(question, layers, hand)
                self.assertTrue(is_right_book(question, layers, hand, leaves, book))

    def test_small_questions(self):
        for question in small_questions(1) + small_questions(2)[::23]:
            for layers, hand in STATES[:6]:
                self.check(question, layers, hand, Formulas(question).fewest_by_layers(layers, hand))

    def test_example(self):
        for hand in HANDS:
            self.check(EXAMPLE, 1, hand, 0)
            for layers in range(2, 7):
                self.check(EXAMPLE, layers, hand, 4)
        self.assertIs(is_layer_book(EXAMPLE, 2, "yes", 4, BOOK), True)
        self.assertIs(is_fewest_by_layers(EXAMPLE, 2, "yes", (4, EXAMPLE_TALK, BOOK)), True)

    def test_ten_rows(self):
        for layers, hand in STATES:
            self.check(TEN, layers, hand, (0, 15, 12, 12, 12, 12)[layers - 1])
        own = (8, all_signs_of(8), (0,), tuple(2 ** place for place in range(8)))
        self.check(own, 1, "no", 8)
        self.check(own, 1, "yes", 0)
        self.check(own, 2, "yes", 8)

    def test_one_layer_from_yes(self):
        # The least number of signs, each so of no row of NO, one of them of each row of YES.
        for question in few_questions(Dice(94), 40, 7):
            _, signs, yes, no = question
            good = [sign for sign in signs if not any(sign_is_so(sign, row) for row in no)]
            counts = [count for count in range(1, len(good) + 1)
                      for some in itertools.combinations(good, count)
                      if all(any(sign_is_so(sign, row) for sign in some) for row in yes)]
            self.check(question, 1, "yes", min(counts, default=0))

    def test_facts(self):
        for question in can_questions(Dice(95), 12, 8):
            found = {state: fewest_by_layers(question, *state)[0] for state in STATES}
            least = least_leaves(question)[0]
            for (layers, hand), leaves in found.items():
                if layers > 1:
                    self.assertGreater(leaves, 0)
                    self.assertLessEqual(leaves, number(found[(layers - 1, hand)]))
                    self.assertLessEqual(leaves, number(found[(layers - 1, OTHER[hand])]))
                self.assertGreaterEqual(number(leaves), least)
                if layers >= len(question[2]) + len(question[3]) - 1:
                    self.assertEqual(leaves, least)

    def test_refused_in_order(self):
        self.check_calls(fewest_by_layers, ("question", "layers", "hand"), (EXAMPLE, 2, "no"),
                         [QUESTION_REFUSALS, LAYERS_REFUSALS, HAND_REFUSALS])
        for question in (ELEVEN, TWELVE, (4, ()) + ELEVEN[2:]):
            for layers, hand in STATES:
                self.refused(TooGreat, {"most": 10}, fewest_by_layers, question, layers, hand)
            self.refused(BadParameter, {"value": 7}, fewest_by_layers, question, 7, None)
            self.refused(BadParameter, {"value": None}, fewest_by_layers, question, 1, None)
        # Pairs that no sign parts are let.
        self.check(LONE, 3, "yes", 0)


class IsFewestTest(Case):

    def test_right_triples_that_are_not_the_told_one(self):
        other = ("no", (0,), ("yes", (1,), (0, 1), (1, 1)), ("yes", (1,), (1, 0), (0, 0)))
        told = fewest_by_layers(EXAMPLE, 3, "yes")
        wider = tuple(sorted(set(told[2]) | set(BOOK) | {(6, "no", 1, (1,), (0,))}))
        for talk in (EXAMPLE_TALK, other):
            for book in (told[2], wider):
                self.assertIs(is_fewest_by_layers(EXAMPLE, 3, "yes", (4, talk, book)), True)
        # The other talk has three layers from "yes", two from "no".
        two = fewest_by_layers(EXAMPLE, 2, "yes")[2]
        self.assertIs(is_fewest_by_layers(EXAMPLE, 2, "yes", (4, EXAMPLE_TALK, two)), True)
        self.assertIs(is_fewest_by_layers(EXAMPLE, 2, "yes", (4, other, two)), False)
        turned = fewest_by_layers(EXAMPLE, 2, "no")[2]
        self.assertIs(is_fewest_by_layers(EXAMPLE, 2, "no", (4, other, turned)), True)
        self.assertIs(is_fewest_by_layers(EXAMPLE, 2, "no", (4, EXAMPLE_TALK, turned)), False)
        # A book for other layers says nothing of these.
        self.assertIs(is_fewest_by_layers(EXAMPLE, 2, "no", (4, other, two)), False)
        self.assertIs(is_fewest_by_layers(EXAMPLE, 3, "yes", (4, other, two)), False)

    def test_bent_triples(self):
        dice = Dice(96)
        for question in [EXAMPLE, LONE] + few_questions(dice, 6, 5):
            for layers, hand in STATES[:6]:
                leaves, talk, book = fewest_by_layers(question, layers, hand)
                for other in (leaves - 1, leaves + 1, float(leaves), str(leaves), None, (leaves,),
                              10 ** 30, 1025):
                    self.assertIs(is_fewest_by_layers(question, layers, hand, (other, talk, book)),
                                  False)
                if leaves:
                    longer = ("yes", question[2], talk, question[1][0])
                    for count in (leaves, leaves + 1):
                        self.assertIs(is_fewest_by_layers(
                            question, layers, hand, (count, longer, book)), False)
                    self.assertIs(is_fewest_by_layers(question, layers, hand, (0, None, book)), False)
                    self.assertIs(is_fewest_by_layers(question, layers, hand, (leaves, None, book)),
                                  False)
                for at in range(len(book)):
                    left = book[:at] + book[at + 1:]
                    wanted = is_right_book(question, layers, hand, leaves, left)
                    self.assertIs(is_fewest_by_layers(question, layers, hand, (leaves, talk, left)),
                                  wanted)

    def test_none_at_all(self):
        _, talk, book = fewest_by_layers(EXAMPLE, 1, "yes")
        self.assertIsNone(talk)
        self.assertIs(is_fewest_by_layers(EXAMPLE, 1, "yes", (0, None, book)), True)
        for other in ((0, 1), EXAMPLE_TALK, 0, False, ()):
            self.assertIs(is_fewest_by_layers(EXAMPLE, 1, "yes", (0, other, book)), False)
        self.assertIs(is_fewest_by_layers(EXAMPLE, 1, "yes", (False, None, book)), False)
        self.assertIs(is_fewest_by_layers(EXAMPLE, 1, "yes", (0, None, ())), False)
        self.assertIs(is_fewest_by_layers(EXAMPLE, 1, "yes", (4, EXAMPLE_TALK, book)), False)

    def test_values_of_any_kind(self):
        for value in ((4, EXAMPLE_TALK), [4, EXAMPLE_TALK, BOOK], (4, EXAMPLE_TALK, BOOK, 0),
                      EXAMPLE_TALK, BOOK, EXAMPLE):
            self.assertIs(is_fewest_by_layers(EXAMPLE, 2, "yes", value), False)
        for value in STRANGE + [EXAMPLE, EXAMPLE_FORMULA]:
            for layers in (1, 2):
                self.assertIs(is_fewest_by_layers(EXAMPLE, layers, "yes", value), False)
            for triple in ((value, EXAMPLE_TALK, BOOK), (4, value, BOOK), (4, EXAMPLE_TALK, value),
                           (value, None, BOOK)):
                self.assertIs(is_fewest_by_layers(EXAMPLE, 2, "yes", triple), False)
        for talk in (full(201, ("yes", (1,)), (0, 1)), chain(61, [("no", ())], 2, (0, 1), (0, 1))):
            self.assertIs(is_fewest_by_layers(EXAMPLE, 2, "yes", (4, talk, BOOK)), False)

    def test_refused_in_order(self):
        for value in ((4, EXAMPLE_TALK, BOOK), None, Touchy()):
            self.check_calls(
                is_fewest_by_layers, ("question", "layers", "hand", "value"),
                (EXAMPLE, 2, "yes", value), [QUESTION_REFUSALS, LAYERS_REFUSALS, HAND_REFUSALS])
            self.refused(TooGreat, {"most": 10}, is_fewest_by_layers, ELEVEN, 2, "yes", value)
            self.refused(BadParameter, {"value": 0}, is_fewest_by_layers, ELEVEN, 0, 0, value)
            self.refused(BadParameter, {"value": 0}, is_fewest_by_layers, ELEVEN, 6, 0, value)
        self.assertIs(is_fewest_by_layers(TEN, 6, "no", None), False)


class IsLayerBookTest(Case):

    def test_books_bent(self):
        dice = Dice(97)
        seen = set()
        for question in [EXAMPLE, LONE] + few_questions(dice, 10, 5):
            all_of = rectangles(question)
            for layers, hand in STATES[:6]:
                leaves, _, book = fewest_by_layers(question, layers, hand)

                def entry():
                    return (1 + dice.below(layers), HANDS[dice.below(2)], dice.below(leaves + 2)
                            ) + all_of[dice.below(len(all_of))]
                for other in [book] + bent(dice, book, entry, 4):
                    for told in {0, 1, leaves, leaves + 1, 1024}:
                        wanted = is_right_book(question, layers, hand, told, other)
                        self.assertIs(is_layer_book(question, layers, hand, told, other), wanted)
                        seen.add((wanted, told > 0, leaves > 0))
        self.assertEqual(len(seen), 7)

    def test_an_entry_of_each_layers_and_hand(self):
        pair = ((2,), (0,))
        for layers, hand in STATES:
            book = ()
            speaker = hand
            for at in range(layers, 0, -1):
                book = ((at, speaker, 0) + pair,) + book
                speaker = OTHER[speaker]
            for leaves in (0, 1, 5, 1024):
                self.assertIs(is_layer_book(LONE, layers, hand, leaves, book), True)
                self.assertIs(is_layer_book(LONE, layers, OTHER[hand], leaves, book), leaves == 1)
            for at in range(layers):
                left = book[:at] + book[at + 1:]
                wanted = at == layers - 1
                self.assertIs(is_layer_book(LONE, layers, hand, 1, left), wanted)
                self.assertIs(is_layer_book(LONE, layers, hand, 2, left), False)

    def test_numbers_of_leaves(self):
        for leaves, wanted in ((0, True), (1, True), (1023, True), (1024, True), (1025, False),
                               (-1, False), (True, False), (1.0, False), (None, False)):
            book = ((1, "yes", leaves, (2,), (0,)),)
            self.assertIs(is_layer_book(LONE, 1, "yes", 1, book), wanted)
        for told in (0, 1, 2, 1023, 1024):
            for leaves in (0, 1, 2, 1023, 1024):
                book = ((1, "no", leaves, (2,), (0,)),)
                wanted = leaves == 0 or 0 < told <= leaves
                self.assertIs(is_layer_book(LONE, 1, "no", told, book), wanted)

    def test_an_empty_book_says_one(self):
        for layers, hand in STATES:
            self.assertIs(is_layer_book(EXAMPLE, layers, hand, 1, ()), True)
            for leaves in (0, 2, 1024):
                self.assertIs(is_layer_book(EXAMPLE, layers, hand, leaves, ()), False)

    def test_nought_is_more_than_any_also_in_sums(self):
        # One layer from "yes": row 1 alone can't be told from 0 and 3, so both rows can't.
        alone = ((1, "yes", 0, (1,), (0, 3)), (1, "yes", 0, (1, 2), (0, 3)))
        self.assertIs(is_layer_book(EXAMPLE, 1, "yes", 0, alone), True)
        self.assertIs(is_layer_book(EXAMPLE, 1, "yes", 1024, alone), True)
        self.assertIs(is_layer_book(EXAMPLE, 1, "yes", 0, alone[:1]), True)
        self.assertIs(is_layer_book(EXAMPLE, 1, "yes", 0, alone[1:]), False)
        great = ((1, "yes", 1024, (1,), (0, 3)), (1, "yes", 1024, (2,), (0, 3)))
        whole = (1, "yes", 0, (1, 2), (0, 3))
        self.assertIs(is_layer_book(EXAMPLE, 1, "yes", 1024, great), True)
        self.assertIs(is_layer_book(EXAMPLE, 1, "yes", 0, (whole,) + great), False)
        # With a layer more the other hand may have one.
        self.assertIs(is_layer_book(EXAMPLE, 2, "yes", 0, ((2, "yes", 0, (1,), (0, 3)),)), False)

    def test_entries_with_more_layers_must_stand(self):
        more = BOOK + ((3, "yes", 4, (1, 2), (0, 3)),)
        self.assertIs(is_layer_book(EXAMPLE, 2, "yes", 4, more), False)
        self.assertIs(is_layer_book(EXAMPLE, 2, "yes", 4, BOOK + ((6, "no", 1, (1,), (0,)),)), True)

    def test_entries_of_wrong_forms(self):
        good = (2, "yes", 4, (1, 2), (0, 3))
        self.assertEqual(BOOK[-1], good)
        one = (2, "yes", 1, (1, 2), (0, 3))
        self.assertIs(is_layer_book(EXAMPLE, 2, "yes", 1, (one,)), True)
        for at, things in enumerate((
            (0, 7, True, 2.0, None, "2"), ("Yes", "row", b"yes", 0, None, ("yes",), TOUCHY_HAND),
            (-1, 1025, True, 4.0, None, "4"), ((), (0,), (2, 1), (1, 2, 3), [1, 2], (1, 1), (True, 2)),
            ((), (1,), (3, 0), (0, 2, 3), [0, 3], (False, 3)),
        )):
            for thing in list(things) + STRANGE:
                if at == 1 and type(thing) is str and thing == "yes":
                    continue
                entry = good[:at] + (thing,) + good[at + 1:]
                self.assertIs(is_layer_book(EXAMPLE, 2, "yes", 1, BOOK[:-1] + (entry,)), False)
                alone = one[:at] + (thing,) + one[at + 1:]
                self.assertIs(is_layer_book(EXAMPLE, 2, "yes", 1, (alone,)), False)
        for entry in (good[:4], good + (0,), list(good)):
            self.assertIs(is_layer_book(EXAMPLE, 2, "yes", 1, BOOK[:-1] + (entry,)), False)

    def test_other_orders_and_kinds(self):
        for at in range(len(BOOK) - 1):
            order = BOOK[:at] + (BOOK[at + 1], BOOK[at]) + BOOK[at + 2:]
            self.assertIs(is_layer_book(EXAMPLE, 2, "yes", 4, order), False)
        self.assertIs(is_layer_book(EXAMPLE, 2, "yes", 4, list(BOOK)), False)
        self.assertIs(is_layer_book(EXAMPLE, 2, "yes", 4, BOOK + BOOK[-1:]), False)
        for value in STRANGE:
            for layers, hand in STATES[:4]:
                self.assertIs(is_layer_book(EXAMPLE, layers, hand, 1, value), False)
            self.assertIs(is_layer_book(EXAMPLE, 2, "yes", 1, BOOK + (value,)), False)

    def test_20000_entries_and_more(self):
        question = (2, (), (1, 2), (0, 3))
        one = sorted((1, hand, leaves, (1,), (0,)) for hand in HANDS for leaves in range(1025))
        two = [(2,) + entry[1:] for entry in one]
        more = sorted((1, "yes", leaves) + lots for lots in rectangles(question)
                      for leaves in range(1, 1025))
        more += sorted((1, "no", leaves) + lots for lots in rectangles(question)
                       for leaves in range(1, 1025))
        book = tuple(sorted(set(one + two + more)))
        self.assertGreater(len(book), 20000)
        for count, wanted in ((20000, True), (20001, False)):
            self.assertIs(is_layer_book(question, 1, "yes", 1, book[:count]), wanted)

    def test_refused_in_order(self):
        for value in (BOOK, None, Touchy()):
            self.check_calls(
                is_layer_book, ("question", "layers", "hand", "leaves", "value"),
                (EXAMPLE, 2, "yes", 4, value),
                [QUESTION_REFUSALS, LAYERS_REFUSALS, HAND_REFUSALS, LEAVES_REFUSALS])
            self.refused(TooGreat, {"most": 10}, is_layer_book, ELEVEN, 2, "yes", 4, value)
            self.refused(BadParameter, {"value": 1025}, is_layer_book, ELEVEN, 2, "yes", 1025, value)
            self.refused(BadParameter, {"value": ""}, is_layer_book, ELEVEN, 2, "", 1025, value)
            self.refused(BadParameter, {"value": 7}, is_layer_book, ELEVEN, 7, "", 1025, value)
        self.assertIs(is_layer_book(TEN, 1, "yes", 1, ()), True)


if __name__ == "__main__":
    unittest.main()
