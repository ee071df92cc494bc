"""[1], [2], [10]: what is checked is what is returned."""

from saidbetween.errors import BadParameter, BadTable
from saidbetween.kinds import need_many, need_row, need_signs, need_values
from saidbetween.questions import need_lot_within
from tests.helpers import Case, is_plain, STRANGE

SIGNS = ((0, 0), (1, 1))
VALUES = (0, 1, 1, 0)


class NeedTest(Case):

    def test_returned_themselves(self):
        self.assertEqual(need_many(8), 8)
        self.assertEqual(need_row(8, 255), 255)
        self.assertIs(need_signs(2, SIGNS), SIGNS)
        self.assertIs(need_values(2, VALUES), VALUES)
        self.assertIs(need_lot_within(2, (1, 2), (0, 1, 2)), (1, 2))

    def test_values_of_any_kind(self):
        for value in STRANGE:
            self.refused(BadParameter, {"value": value}, need_many, value)
            self.refused(BadParameter, {"value": value}, need_row, 8, value)
            if not is_plain(value) or value != ((0, 1),):
                self.refused(BadParameter, {"value": value}, need_signs, 2, value)
            signs = (value,)
            self.refused(BadParameter, {"value": signs}, need_signs, 2, signs)
            self.refused(BadParameter, {"value": value}, need_lot_within, 2, value, (0, 1))
            self.refused(BadTable, {"place": (3,)}, need_values, 2, VALUES[:3] + (value,))
