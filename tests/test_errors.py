"""The refusals: asitruns.errors."""

import unittest

from asitruns.errors import BadRow, GuestError, NoAsk, NoPaper, NoStep, NoTurning

REFUSALS = (BadRow, NoTurning, NoPaper, NoAsk, NoStep)


class Refusals(unittest.TestCase):

    def test_guest_error_stands_right_under_value_error(self):
        self.assertEqual(GuestError.__bases__, (ValueError,))

    def test_each_stands_right_under_guest_error(self):
        for refusal in REFUSALS:
            with self.subTest(refusal=refusal):
                self.assertEqual(refusal.__bases__, (GuestError,))

    def test_bad_row_is_made_of_its_row(self):
        for row in (1, 2, 128):
            with self.subTest(row=row):
                self.assertEqual(BadRow(row).row, row)

    def test_the_others_are_made_of_a_text(self):
        for refusal in (GuestError, NoTurning, NoPaper, NoAsk, NoStep):
            with self.subTest(refusal=refusal):
                self.assertEqual(str(refusal("some words")), "some words")


if __name__ == "__main__":
    unittest.main()
