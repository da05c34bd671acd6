"""The errors that the section "The interface" lists."""

import unittest

from lothouse import errors
from tests.things import anything

WITH_FIELD = {
    "NoLine": "line", "NoSight": "number", "NoGround": "steps", "NoLot": "name",
    "NoDay": "day", "NoOffice": "office", "NoText": "row",
}
OF_TEXT = ["NoPlan", "NoPoint", "NoShare", "NoDeed", "NoSlip", "NoKey", "NoPage", "NoWindow"]


class Errors(unittest.TestCase):
    def test_lot_error_is_a_value_error(self):
        self.assertEqual(errors.LotError.__bases__, (ValueError,))
        self.assertEqual(str(errors.LotError("why")), "why")

    def test_all_others_stand_straight_under_it(self):
        for name in [*WITH_FIELD, *OF_TEXT]:
            with self.subTest(name):
                self.assertEqual(getattr(errors, name).__bases__, (errors.LotError,))

    def test_they_are_defined_in_this_file(self):
        for name in ["LotError", *WITH_FIELD, *OF_TEXT]:
            self.assertEqual(getattr(errors, name).__module__, "lothouse.errors")

    def test_fields_by_place_and_by_name(self):
        for name, field in WITH_FIELD.items():
            for thing in anything():
                with self.subTest(name, thing=thing):
                    made = getattr(errors, name)
                    self.assertIs(getattr(made(thing), field), thing)
                    self.assertIs(getattr(made(**{field: thing}), field), thing)

    def test_each_is_caught_as_what_it_is(self):
        for name in [*WITH_FIELD, *OF_TEXT]:
            made = getattr(errors, name)
            for caught in (made, errors.LotError, ValueError):
                with self.subTest(name), self.assertRaises(caught):
                    raise made("thing")

    def test_others_are_made_of_a_text(self):
        for name in OF_TEXT:
            with self.subTest(name):
                self.assertEqual(str(getattr(errors, name)("why it is so")), "why it is so")


if __name__ == "__main__":
    unittest.main()
