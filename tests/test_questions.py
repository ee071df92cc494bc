"""[1] to [3], [10] to [12]: questions checked, parted, made of others."""

import itertools
import unittest

from saidbetween.errors import BadParameter, BadQuestion, BadTable
from saidbetween.questions import (
    all_signs, bit_at, can_be, first_unparted, lesser, need_question, parted, question_of,
    rising_signs, turned,
)
from tests.helpers import (
    all_signs_of, Case, Dice, EXAMPLE, QUESTION_REFUSALS, sign_is_so, small_questions, STRANGE,
    subsets, thrown_question, Touchy, WRONG_LOTS,
)

SIGNS = EXAMPLE[1]

# What is no SET of signs of two bits, and the first wrong place in it; None for no tuple.
WRONG_SIGNS = [
    (list(SIGNS), None), ({}, None), (None, None), ("", None), (set(SIGNS), None), (7, None),
    (((0, 1), (0, 1)), 1), (((0, 1), (0, 0)), 1), (((0, 0), (1, 0), (0, 1)), 2),
    (((1, 1), (0, 1), 7), 1), (((0, 0), (0, 1), (2, 0)), 2), (((0, 2),), 0), (((0, -1),), 0),
    (((-1, 0),), 0), (((2, 0),), 0), (([0, 1],), 0), (((0, 1, 0),), 0), (((0,),), 0), ((0, 1), 0),
    (((0, True),), 0), (((False, 1),), 0), (((0, 1.0),), 0), (((0.0, 1),), 0), (((0, "1"),), 0),
    (((0, 1), [1, 1]), 1), (((0, 1), None, (0, 0)), 1), (((0, 1), (1, Touchy())), 1), ((((),),), 0),
]


class NeedQuestionTest(Case):

    def test_good_ones_are_returned_themselves(self):
        for question in small_questions(1) + small_questions(2):
            self.assertIs(need_question(question), question)

    def test_one_bit_and_eight_bits_all_signs_and_all_rows(self):
        for many in (1, 8):
            for signs in ((), all_signs_of(many)):
                yes = tuple(range(0, 2 ** many, 2))
                no = tuple(range(1, 2 ** many, 2))
                question = (many, signs, yes, no)
                self.assertIs(need_question(question), question)
                self.refused(BadQuestion, {"place": (2,)}, need_question,
                             (many, signs, yes + (2 ** many,), no))
                self.refused(BadQuestion, {"place": (3,)}, need_question,
                             (many, signs, yes, no + (2 ** many,)))
                self.refused(BadQuestion, {"place": (1, len(signs))}, need_question,
                             (many, signs + ((many, 0),), yes, no))

    def test_no_tuple_of_four(self):
        for value in STRANGE:
            if type(value) is not tuple or len(value) != 4:
                self.refused(BadQuestion, {"place": ()}, need_question, value)
        for value in ((), EXAMPLE[:3], EXAMPLE + ((),), list(EXAMPLE), dict(enumerate(EXAMPLE))):
            self.refused(BadQuestion, {"place": ()}, need_question, value)

    def test_many(self):
        for many in (0, 9, -1, True, 1.0, 2.0, "2", None, (2,), [2], Touchy(), 10 ** 40):
            self.refused(BadQuestion, {"place": (0,)}, need_question, (many,) + EXAMPLE[1:])
        for many in range(1, 9):
            question = (many, (), (0,), (1,))
            self.assertIs(need_question(question), question)

    def test_signs(self):
        for signs, first in WRONG_SIGNS:
            place = (1,) if first is None else (1, first)
            self.refused(BadQuestion, {"place": place}, need_question, (2, signs, (1, 2), (0, 3)))
        self.assertIsNotNone(need_question((2, (), (1, 2), (0, 3))))

    def test_each_sign_put_out_of_its_place(self):
        for order in itertools.permutations(SIGNS):
            wrong = [at for at in range(1, 4) if order[at] <= order[at - 1]]
            if wrong:
                self.refused(BadQuestion, {"place": (1, wrong[0])}, need_question,
                             (2, order, (1, 2), (0, 3)))

    def test_lots(self):
        for lot in WRONG_LOTS + [()]:
            self.refused(BadQuestion, {"place": (2,)}, need_question, (2, SIGNS, lot, (0, 3)))
            self.refused(BadQuestion, {"place": (3,)}, need_question, (2, SIGNS, (1, 2), lot))

    def test_common_rows(self):
        for yes in subsets(range(4)):
            for no in subsets(range(4)):
                question = (2, SIGNS, yes, no)
                if not yes:
                    self.refused(BadQuestion, {"place": (2,)}, need_question, question)
                elif not no or set(yes) & set(no):
                    self.refused(BadQuestion, {"place": (3,)}, need_question, question)
                else:
                    self.assertIs(need_question(question), question)

    def test_two_wrong_things_the_first_is_told(self):
        wrong = [(True, (0,)), (((0, 1), (0, 1)), (1, 1)), ((2, 1), (2,)), ((1,), (3,))]
        for first, later in itertools.combinations(range(4), 2):
            things = list(EXAMPLE)
            things[first] = wrong[first][0]
            things[later] = wrong[later][0]
            self.refused(BadQuestion, {"place": wrong[first][1]}, need_question, tuple(things))
            self.refused(BadQuestion, {"place": ()}, need_question, things)
            self.refused(BadQuestion, {"place": ()}, need_question, tuple(things) + (0,))

    def test_signs_that_only_more_bits_have(self):
        self.refused(BadQuestion, {"place": (1, 2)}, need_question, (1, SIGNS, (0,), (1,)))
        self.refused(BadQuestion, {"place": (2,)}, need_question, (1, (), (2,), (1,)))

    def test_by_name(self):
        self.assertEqual(need_question(question=EXAMPLE), EXAMPLE)
        self.refused(BadQuestion, {"place": ()}, need_question, question=0)


class BitAtTest(Case):

    def test_all_bits(self):
        for row in range(256):
            bits = [bit_at(row, place) for place in range(8)]
            self.assertTrue(all(type(bit) is int and bit in (0, 1) for bit in bits))
            self.assertEqual(sum(bit * 2 ** place for place, bit in enumerate(bits)), row)

    def test_bounds_and_order(self):
        rows = [-1, 256, True, False, 1.0, "1", None, (1,), Touchy(), 10 ** 40]
        places = [-1, 8, True, False, 0.0, "0", None, (0,), Touchy(), 10 ** 40]
        self.check_calls(
            bit_at, ("row", "place"), (255, 7),
            [[(row, BadParameter, {"value": row}) for row in rows],
             [(place, BadParameter, {"value": place}) for place in places]],
        )


class PartedTest(Case):

    def test_by_the_words(self):
        lots = subsets(range(4))
        for sign in SIGNS:
            for yes in lots:
                for no in lots:
                    wanted = (all(sign_is_so(sign, row) for row in yes)
                              and not any(sign_is_so(sign, row) for row in no))
                    self.assertIs(parted(EXAMPLE, sign, yes, no), wanted)

    def test_empty_lots_are_parted_by_every_sign(self):
        for sign in SIGNS:
            self.assertIs(parted(EXAMPLE, sign, (), ()), True)

    def test_a_sign_that_is_not_of_the_question(self):
        question = (2, ((0, 0),), (1,), (0,))
        self.assertIs(parted(question, (1, 1), (2, 3), (0, 1)), True)
        self.assertIs(parted(question, (0, 1), (1,), (0,)), True)
        self.assertIs(parted((2, (), (1,), (0,)), (0, 1), (1, 3), (0, 2)), True)

    def test_a_common_row_is_never_parted(self):
        for sign in SIGNS:
            self.assertIs(parted(EXAMPLE, sign, (1, 2), (2,)), False)

    def test_refused_in_order(self):
        signs = [None, [0, 1], (0,), (0, 1, 1), (2, 0), (0, 2), (-1, 0), (True, 1), (0, True), "01",
                 (0, 1.0), (0, Touchy()), Touchy()]
        self.check_calls(
            parted, ("question", "sign", "yes", "no"), (EXAMPLE, (0, 1), (1, 3), (0, 2)),
            [QUESTION_REFUSALS] + [
                [(value, BadParameter, {"value": value}) for value in values]
                for values in (signs, WRONG_LOTS, WRONG_LOTS)
            ],
        )

    def test_the_bits_are_those_of_the_question(self):
        question = (3, (), (7,), (0,))
        self.assertIs(parted(question, (2, 1), (4, 5, 6, 7), (0, 1, 2, 3)), True)
        self.refused(BadParameter, {"value": (3, 1)}, parted, question, (3, 1), (), ())
        self.refused(BadParameter, {"value": (8,)}, parted, question, (2, 1), (8,), ())
        self.refused(BadParameter, {"value": (8,)}, parted, question, (2, 1), (), (8,))


class UnpartedTest(Case):

    def wanted(self, question):
        _, signs, yes, no = question
        for pair in itertools.product(yes, no):
            if not any(sign_is_so(sign, pair[0]) and not sign_is_so(sign, pair[1])
                       for sign in signs):
                return pair
        return None

    def test_by_the_words(self):
        dice = Dice(1)
        questions = small_questions(1) + small_questions(2)
        questions += [thrown_question(dice, many) for many in (3, 4, 5, 8) for _ in range(30)]
        for question in questions:
            pair = self.wanted(question)
            self.assertEqual(first_unparted(question), pair)
            self.assertIs(can_be(question), pair is None)

    def test_all_rows_of_eight_bits(self):
        yes = tuple(row for row in range(256) if bin(row).count("1") % 2)
        no = tuple(row for row in range(256) if bin(row).count("1") % 2 == 0)
        self.assertIsNone(first_unparted((8, all_signs_of(8), yes, no)))
        self.assertEqual(first_unparted((8, all_signs_of(8)[1::2], yes, no)), (1, 3))
        self.assertEqual(first_unparted((8, (), yes, no)), (1, 0))

    def test_example(self):
        rising = (2, ((0, 1), (1, 1)), (1, 2), (0, 3))
        self.assertEqual(first_unparted(rising), (1, 3))
        self.assertIs(can_be(rising), False)
        self.assertIsNone(first_unparted(EXAMPLE))
        self.assertIs(can_be(EXAMPLE), True)

    def test_refused(self):
        for function in (first_unparted, can_be):
            self.check_calls(function, ("question",), (EXAMPLE,), [QUESTION_REFUSALS])

    def test_facts(self):
        for question in small_questions(2):
            many, signs, yes, no = question
            if can_be(question):
                for more in SIGNS:
                    wider = (many, tuple(sorted(set(signs) | {more})), yes, no)
                    self.assertTrue(can_be(wider))
                for left in yes:
                    rest = tuple(row for row in yes if row != left)
                    if rest:
                        self.assertTrue(can_be(lesser(question, rest, no)))
            if signs == SIGNS:
                self.assertTrue(can_be(question))
            if signs == ((0, 1), (1, 1)):
                below = any(a & b == a for a in yes for b in no)
                self.assertIs(can_be(question), not below)


class TurnedTest(Case):

    def test_by_the_words(self):
        dice = Dice(2)
        questions = small_questions(2) + [thrown_question(dice, many) for many in range(1, 9)]
        for question in questions:
            many, signs, yes, no = question
            other = turned(question)
            self.assertEqual(
                other, (many, tuple(sorted((at, 1 - bit) for at, bit in signs)), no, yes))
            self.assertIs(need_question(other), other)
            self.assertEqual(turned(other), question)
            self.assertIs(can_be(other), can_be(question))

    def test_a_sign_parts_exactly_if_the_turned_one_parts_exchanged(self):
        lots = subsets(range(4))
        other = turned(EXAMPLE)
        for (place, bit), yes, no in itertools.product(SIGNS, lots, lots):
            self.assertIs(parted(EXAMPLE, (place, bit), yes, no),
                          parted(other, (place, 1 - bit), no, yes))

    def test_example(self):
        self.assertEqual(turned(EXAMPLE), (2, SIGNS, (0, 3), (1, 2)))

    def test_refused(self):
        self.check_calls(turned, ("question",), (EXAMPLE,), [QUESTION_REFUSALS])


class SignsTest(Case):

    def test_all_numbers_of_bits(self):
        for many in range(1, 9):
            self.assertEqual(rising_signs(many), tuple((place, 1) for place in range(many)))
            self.assertEqual(all_signs(many), tuple(
                sorted((place, bit) for place in range(many) for bit in (0, 1))))

    def test_refused(self):
        wrong = [0, 9, -1, True, False, 2.0, "2", None, (2,), Touchy(), 10 ** 40]
        refusals = [(many, BadParameter, {"value": many}) for many in wrong]
        for function in (rising_signs, all_signs):
            self.check_calls(function, ("many",), (2,), [refusals])


class QuestionOfTest(Case):

    def test_all_tables_of_one_and_two_bits(self):
        for many in (1, 2):
            for values in itertools.product((0, 1), repeat=2 ** many):
                for signs in ((), all_signs_of(many)):
                    if len(set(values)) == 1:
                        self.refused(BadParameter, {"value": values}, question_of, many, signs,
                                     values)
                        continue
                    question = question_of(many, signs, values)
                    self.assertEqual(question[:2], (many, signs))
                    for lot, bit in ((question[2], 1), (question[3], 0)):
                        self.assertEqual(lot, tuple(
                            row for row, value in enumerate(values) if value == bit))
                    self.assertIs(need_question(question), question)

    def test_eight_bits(self):
        values = tuple(row % 3 % 2 for row in range(256))
        question = question_of(8, all_signs(8), values)
        self.assertEqual(question[2], tuple(range(1, 256, 3)))
        self.assertEqual(len(question[2]) + len(question[3]), 256)
        self.assertTrue(can_be(question))

    def test_refused_in_order(self):
        many = [(one, BadParameter, {"value": one}) for one in (0, 9, True, None, 2.0, (2,))]
        signs = [(one, BadParameter, {"value": one}) for one, _ in WRONG_SIGNS]
        values = [
            (one, BadTable, {"place": place}) for one, place in (
                ([0, 1, 1, 0], ()), (None, ()), ((), ()), ((0, 1, 1), ()), ((0, 1, 1, 0, 0), ()),
                ("0110", ()), ((0, 1, 1, 2), (3,)), ((True, 1, 1, 0), (0,)), ((0, 1, None, 2), (2,)),
                ((0, -1, 1, 0), (1,)), ((0, 1.0, 1, 0), (1,)), ((0, 1, Touchy(), 9), (2,)),
                ((0, 0, 0, False), (3,)),
            )
        ] + [(one, BadParameter, {"value": one}) for one in ((0, 0, 0, 0), (1, 1, 1, 1))]
        self.check_calls(question_of, ("many", "signs", "values"), (2, SIGNS, (0, 1, 1, 0)),
                         [many, signs, values])

    def test_values_are_those_of_so_many_bits(self):
        self.refused(BadTable, {"place": ()}, question_of, 3, (), (0, 1, 1, 0))
        self.refused(BadTable, {"place": ()}, question_of, 1, (), (0, 1, 1, 0))


class LesserTest(Case):

    def test_all_lots_of_the_example(self):
        for yes in subsets(range(4)):
            for no in subsets(range(4)):
                if not yes or not set(yes) <= {1, 2}:
                    self.refused(BadParameter, {"value": yes}, lesser, EXAMPLE, yes, no)
                elif not no or not set(no) <= {0, 3}:
                    self.refused(BadParameter, {"value": no}, lesser, EXAMPLE, yes, no)
                else:
                    question = lesser(EXAMPLE, yes, no)
                    self.assertEqual(question, (2, SIGNS, yes, no))
                    self.assertIs(need_question(question), question)

    def test_refused_in_order(self):
        lots = [(lot, BadParameter, {"value": lot}) for lot in WRONG_LOTS + [()]]
        self.check_calls(
            lesser, ("question", "yes", "no"), (EXAMPLE, (2,), (0, 3)),
            [QUESTION_REFUSALS,
             lots + [(lot, BadParameter, {"value": lot}) for lot in ((0,), (1, 3), (0, 1, 2))],
             lots + [(lot, BadParameter, {"value": lot}) for lot in ((1,), (0, 1), (0, 2, 3))]],
        )

    def test_what_can_be_can_be_with_fewer_rows(self):
        dice = Dice(3)
        for many in (3, 4, 8):
            for _ in range(20):
                question = thrown_question(dice, many)
                part = lesser(question, dice.some(question[2], 1), dice.some(question[3], 1))
                self.assertTrue(can_be(part) or not can_be(question))


if __name__ == "__main__":
    unittest.main()
