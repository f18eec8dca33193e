"""The error classes: points 2 and the interface."""

import unittest

from manyreaders import errors
from manyreaders.errors import GuestError, NoDeed, NoLine, NoText, TooMany

REFUSALS = (NoDeed, NoText, TooMany, NoLine)


class ErrorTests(unittest.TestCase):
    def test_guest_error_stands_straight_under_value_error(self):
        self.assertEqual(GuestError.__bases__, (ValueError,))

    def test_each_refusal_stands_straight_under_guest_error(self):
        for refusal in REFUSALS:
            with self.subTest(refusal=refusal):
                self.assertEqual(refusal.__bases__, (GuestError,))

    def test_no_refusal_stands_under_another(self):
        for refusal in REFUSALS:
            for other in REFUSALS:
                if refusal is not other:
                    self.assertFalse(issubclass(refusal, other))

    def test_these_are_all(self):
        told = [thing for thing in vars(errors).values() if isinstance(thing, type)]
        self.assertEqual(set(told), {GuestError, *REFUSALS})

    def test_no_deed_has_its_place(self):
        for place in (0, 1, 399):
            self.assertEqual(NoDeed(place).place, place)
            self.assertEqual(NoDeed(place=place).place, place)

    def test_no_text_has_its_row(self):
        for row in (0, 1, 399):
            self.assertEqual(NoText(row).row, row)
            self.assertEqual(NoText(row=row).row, row)
        self.assertIsNone(NoText(None).row)

    def test_the_others_are_made_with_a_text(self):
        self.assertEqual(str(TooMany("beyond 2000")), "beyond 2000")
        self.assertEqual(str(NoLine("what?")), "what?")

    def test_each_is_taken_as_a_guest_error(self):
        for refusal, value in ((NoDeed, 3), (NoText, None), (TooMany, "many"), (NoLine, "none")):
            for taken in (refusal, GuestError, ValueError):
                with self.assertRaises(taken):
                    raise refusal(value)

    def test_places_and_rows_are_kept_apart(self):
        self.assertFalse(hasattr(NoDeed(1), "row"))
        self.assertFalse(hasattr(NoText(1), "place"))


if __name__ == "__main__":
    unittest.main()
