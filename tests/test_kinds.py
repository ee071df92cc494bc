"""[1], [2], [10]: what is checked is what is returned."""

from saidbetween.errors import BadParameter, BadTable
from saidbetween.kinds import (
    is_set_of_entries, is_set_of_numbers, need_many, need_row, need_signs, need_values,
)
from saidbetween.questions import need_lot_within
from tests.helpers import Case, is_plain, STRANGE, subsets

SIGNS = ((0, 0), (1, 1))
VALUES = (0, 1, 1, 0)


class NeedTest(Case):

    def test_returned_themselves(self):
        self.assertEqual(need_many(8), 8)
        self.assertEqual(need_row(8, 255), 255)
        self.assertIs(need_signs(2, SIGNS), SIGNS)
        self.assertIs(need_values(2, VALUES), VALUES)
        self.assertIs(need_lot_within(2, (1, 2), (0, 1, 2)), (1, 2))

    def test_values_of_any_kind(self):
        for value in STRANGE:
            self.refused(BadParameter, {"value": value}, need_many, value)
            self.refused(BadParameter, {"value": value}, need_row, 8, value)
            if not is_plain(value) or value != ((0, 1),):
                self.refused(BadParameter, {"value": value}, need_signs, 2, value)
            signs = (value,)
            self.refused(BadParameter, {"value": signs}, need_signs, 2, signs)
            self.refused(BadParameter, {"value": value}, need_lot_within, 2, value, (0, 1))
            self.refused(BadTable, {"place": (3,)}, need_values, 2, VALUES[:3] + (value,))


class SetTest(Case):

    def test_sets_of_numbers(self):
        for lot in subsets(range(4)):
            for limit in range(5):
                self.assertIs(is_set_of_numbers(limit, lot), all(one < limit for one in lot))
        for thing in STRANGE + [(1, 0), (0, 0), (0, 1, 1), (-1, 0), (0, 2.0), (0, True), [0, 1]]:
            self.assertIs(is_set_of_numbers(9, thing), False)

    def test_sets_of_entries(self):
        def is_entry(least, thing):
            return type(thing) is tuple and len(thing) == 1 and type(thing[0]) is int and (
                thing[0] >= least)

        for least, thing, wanted in (
            (0, (), True), (0, ((0,), (3,)), True), (1, ((0,), (3,)), False), (0, ((3,), (0,)), False),
            (0, ((3,), (3,)), False), (0, [(0,), (3,)], False), (0, ((0,), None), False), (0, None, False),
        ):
            self.assertIs(is_set_of_entries(least, thing, is_entry), wanted)
        many = tuple((number,) for number in range(20001))
        self.assertIs(is_set_of_entries(0, many[:20000], is_entry), True)
        self.assertIs(is_set_of_entries(0, many, is_entry), False)
