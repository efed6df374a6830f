"""Points 2, 4 and 5: asitruns.guest.rows."""

import unittest

from asitruns.errors import BadRow
from asitruns.guest.rows import number_of, read, set_out, shown

# Written out here once more, so that a change of the program's own order is seen.
WORDS = {
    "halt": 0, "put": 1, "add": 2, "sub": 3, "mul": 4, "bad": 5, "div": 6, "get": 7,
    "set": 8, "jump": 9, "when": 10, "go": 11, "tell": 12, "hear": 13, "right": 14, "back": 15,
}


class SetOut(unittest.TestCase):
    """Point 4."""

    def test_each_word_at_its_edges(self):
        for word, order in WORDS.items():
            for a in (0, 7):
                for b in (0, 7):
                    for c in (0, 63):
                        number = order * 4096 + a * 512 + b * 64 + c
                        with self.subTest(number=number):
                            self.assertEqual(set_out(number), (word, a, b, c))
                            self.assertEqual(number_of((word, a, b, c)), number)

    def test_first_and_last(self):
        self.assertEqual(set_out(0), ("halt", 0, 0, 0))
        self.assertEqual(set_out(65535), ("back", 7, 7, 63))
        self.assertEqual(number_of(("halt", 0, 0, 0)), 0)
        self.assertEqual(number_of(("back", 7, 7, 63)), 65535)

    def test_each_part_has_its_own_place(self):
        self.assertEqual(set_out(2 * 4096 + 3 * 512 + 5 * 64 + 41), ("add", 3, 5, 41))
        self.assertEqual(number_of(("add", 3, 5, 41)), 10089)

    def test_every_number_is_made_again(self):
        for number in range(65536):
            self.assertEqual(number_of(set_out(number)), number)

    def test_kinds(self):
        row = set_out(4096)
        self.assertIs(type(row), tuple)
        self.assertEqual([type(part) for part in row], [str, int, int, int])
        self.assertIs(type(number_of(row)), int)

    def test_a_number_somewhat_beyond_is_not_refused(self):
        self.assertEqual(len(set_out(65536)), 4)


class Read(unittest.TestCase):
    """Point 5: what is read."""

    def test_one_row(self):
        self.assertEqual(read("put 1 2 3"), (4096 + 512 + 128 + 3,))
        self.assertIs(type(read("put 1 2 3")), tuple)

    def test_each_word_at_its_edges(self):
        for word, order in WORDS.items():
            with self.subTest(word=word):
                text = f"{word} 0 0 0\n{word} 7 7 63\n{word} 7 0 10"
                first = order * 4096
                self.assertEqual(read(text), (first, first + 4095, first + 7 * 512 + 10))

    def test_cell(self):
        self.assertEqual(read("cell 0"), (0,))
        self.assertEqual(read("cell 65535"), (65535,))
        self.assertEqual(read("cell 10\ncell 9"), (10, 9))

    def test_rows_in_their_order(self):
        self.assertEqual(read("halt 0 0 0\ncell 7\nput 0 0 1\ncell 65535"), (0, 7, 4097, 65535))

    def test_128_rows(self):
        by_words = "\n".join([f"put {k % 8} {k // 8 % 8} {k % 64}" for k in range(128)])
        cells = tuple([4096 + k % 8 * 512 + k // 8 % 8 * 64 + k % 64 for k in range(128)])
        self.assertEqual(read(by_words), cells)
        by_cells = "\n".join([f"cell {number}" for number in cells])
        self.assertEqual(read(by_cells), cells)

    def test_more_rows_are_not_refused(self):
        self.assertEqual(read("\n".join(["cell 1"] * 130)), (1,) * 130)


class Refused(unittest.TestCase):
    """Point 5: what is refused, and with which row."""

    def refused(self, text, row):
        with self.subTest(text=text[:40]):
            with self.assertRaises(BadRow) as caught:
                read(text)
            self.assertEqual(caught.exception.row, row)
            self.assertIs(type(caught.exception.row), int)

    def refused_anywhere(self, line):
        """The line alone, behind other rows, ahead of them, and ahead of another that is none."""
        self.refused(line, 1)
        self.refused("put 0 0 0\n" + line, 2)
        self.refused("put 0 0 0\ncell 5\n" + line + "\nput 0 0 0", 3)
        self.refused("put 0 0 0\n" + line + "\nnone", 2)

    def test_numbers_beyond_their_bounds(self):
        for line in ("put 8 0 0", "put 0 8 0", "put 0 0 64", "cell 65536", "put 10 0 0", "put 0 10 0",
                     "put 0 0 100", "cell 100000", "cell " + "9" * 5000, "put 0 0 " + "1" * 5000):
            self.refused_anywhere(line)

    def test_each_word_beyond_its_bounds(self):
        for word in WORDS:
            for parts in ("8 0 0", "0 8 0", "0 0 64"):
                self.refused(f"{word} {parts}", 1)

    def test_a_nought_ahead(self):
        for line in ("put 00 0 0", "put 01 0 0", "put 0 01 0", "put 0 0 01", "put 0 0 00", "cell 00",
                     "cell 01", "cell 00001"):
            self.refused_anywhere(line)

    def test_a_sign(self):
        for line in ("put +1 0 0", "put -1 0 0", "put 0 -0 0", "put 0 0 +5", "put 0 0 -1", "cell -1", "cell +1"):
            self.refused_anywhere(line)

    def test_no_figures(self):
        for line in ("put a 0 0", "put 0 b 0", "put 0 0 c", "put 0 0 1a", "put 0 0 a1", "put 0x1 0 0",
                     "put 0 0 1_0", "put 0 0 1.", "cell x", "cell 1_0", "cell 1e1", "cell 0x10", "put 0 0 1,"):
            self.refused_anywhere(line)

    def test_a_part_too_many_or_lacking(self):
        for line in ("put", "put 0", "put 0 0", "put 0 0 0 0", "halt", "cell", "cell 1 2", "cell 0 0 0", "0 0 0", "5"):
            self.refused_anywhere(line)

    def test_a_word_that_is_none(self):
        for line in ("nop 0 0 0", "Put 0 0 0", "PUT 0 0 0", "puts 0 0 0", "pu 0 0 0", "1 0 0 0", "Cell 1", "cells 1",
                     "put 1", "; 0 0 0"):
            self.refused_anywhere(line)

    def test_a_blank_too_many(self):
        for line in (" put 0 0 0", "put 0 0 0 ", "put  0 0 0", "put 0  0 0", "put 0 0  0", "put 0  0", "put  0 0",
                     " cell 1", "cell 1 ", "cell  1", "cell ", " ", "   "):
            self.refused_anywhere(line)

    def test_other_white_signs(self):
        for line in ("put\t0 0 0", "put 0 0 0\t", "put 0 0 0\r", "\tcell 1"):
            self.refused_anywhere(line)

    def test_a_row_without_signs(self):
        self.refused("", 1)
        self.refused("\n", 1)
        self.refused("\nput 0 0 0", 1)
        self.refused("put 0 0 0\n", 2)
        self.refused("put 0 0 0\n\nput 0 0 0", 2)
        self.refused("\n".join(["put 0 0 0"] * 128) + "\n", 129)

    def test_the_last_of_128_rows(self):
        self.refused("\n".join(["put 0 0 0"] * 127 + ["put 0 0 64"]), 128)


class Shown(unittest.TestCase):
    """Point 5: what is shown."""

    def test_each_by_its_word(self):
        self.assertEqual(shown((0, 65535, 10089)), "halt 0 0 0\nback 7 7 63\nadd 3 5 41")
        self.assertEqual(shown(read("cell 4097\ncell 0")), "put 0 0 1\nhalt 0 0 0")

    def test_one_and_none(self):
        self.assertEqual(shown((4096,)), "put 0 0 0")
        self.assertEqual(shown(()), "")

    def test_what_is_shown_is_read_again(self):
        for first in range(0, 65536, 128):
            cells = tuple(range(first, first + 128))
            self.assertEqual(read(shown(cells)), cells)

    def test_what_is_read_by_words_is_shown_again(self):
        text = "put 1 0 5\nget 2 1 63\nwhen 6 0 31\nback 0 0 0"
        self.assertEqual(shown(read(text)), text)


if __name__ == "__main__":
    unittest.main()
