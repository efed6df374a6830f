"""Points 2 and 10: asitruns.middle.blocks."""

import unittest

from asitruns.guest.rows import number_of, read
from asitruns.middle.blocks import block_at
from helper import WORDS, Same, altered, state_of

ENDS = ("halt", "bad", "jump", "when", "go", "right", "back")
PUT = number_of(("put", 0, 0, 1))


def state_with(cells, rights=None):
    """A state with these cells, all rights 7 where none are told."""
    return altered(state_of(), cells=tuple(cells), rights=rights or (7,) * (len(cells) // 8))


class Ended(Same):
    """Point 10: blocks that a word ends."""

    def test_each_word(self):
        for word in WORDS:
            for parts in ((0, 0, 0), (7, 7, 63)):
                last = number_of((word,) + parts)
                cells = (PUT, PUT, last) + (PUT,) * 5
                with self.subTest(word=word, parts=parts):
                    if word in ENDS:
                        self.same(block_at(state_with(cells), 0), (PUT, PUT, last))
                        self.same(block_at(state_with(cells), 2), (last,))
                    else:
                        self.same(block_at(state_with(cells), 0), cells)
                        self.same(block_at(state_with(cells), 2), cells[2:])

    def test_the_first_one_ends_it(self):
        cells = read("put 0 0 1\nwhen 7 0 0\njump 0 0 0\nhalt 0 0 0\nput 0 0 1\nbad 0 0 0\nback 0 0 0\ngo 0 0 0")
        state = state_with(cells)
        self.assertEqual([len(block_at(state, place)) for place in range(8)], [2, 1, 1, 1, 2, 1, 1, 1])

    def test_the_state_s_own_place_does_not_matter(self):
        cells = tuple([PUT + k for k in range(8)])
        for place in (0, 5, 200):
            self.same(block_at(altered(state_with(cells), place=place), 3), cells[3:])


class Cut(Same):
    """Point 10: blocks that go no further."""

    def test_by_the_bound(self):
        cells = (PUT,) * 127 + (0,)
        state = state_with(cells)
        for most in (1, 2, 16, 59, 60):
            with self.subTest(most=most):
                self.same(block_at(state, 0, most), (PUT,) * most)

    def test_sixty_where_no_bound_is_told(self):
        state = state_with(tuple(range(PUT, PUT + 128)))
        self.same(block_at(state, 0), tuple(range(PUT, PUT + 60)))
        self.same(block_at(state, 68), tuple(range(PUT + 68, PUT + 128)))
        self.same(block_at(state, 69), tuple(range(PUT + 69, PUT + 128)))

    def test_a_word_that_ends_it_at_the_bound(self):
        cells = (PUT,) * 3 + (0,) * 5
        for most, rows in ((3, 3), (4, 4), (5, 4)):
            self.same(block_at(state_with(cells), 0, most), cells[:rows])

    def test_a_bound_somewhat_beyond(self):
        state = state_with((PUT,) * 128)
        self.same(block_at(state, 0, 0), ())
        self.same(block_at(state, 0, 61), (PUT,) * 61)

    def test_by_the_last_cell(self):
        cells = tuple(range(PUT, PUT + 16))
        self.same(block_at(state_with(cells), 0), cells)
        self.same(block_at(state_with(cells), 9), cells[9:])
        self.same(block_at(state_with(cells), 15), cells[15:])

    def test_by_a_page_that_may_not_be_run(self):
        cells = tuple(range(PUT, PUT + 24))
        for rights in range(8):
            state = state_with(cells, (7, rights, 7))
            with self.subTest(rights=rights):
                self.same(block_at(state, 3), cells[3:] if rights >= 4 else cells[3:8])
                self.same(block_at(state, 7), cells[7:] if rights >= 4 else cells[7:8])

    def test_the_right_to_run_is_enough(self):
        cells = tuple(range(PUT, PUT + 16))
        self.same(block_at(state_with(cells, (4, 4)), 0), cells)

    def test_the_bound_goes_ahead_of_the_page(self):
        cells = tuple(range(PUT, PUT + 16))
        self.same(block_at(state_with(cells, (7, 3)), 3, 5), cells[3:8])
        self.same(block_at(state_with(cells, (7, 3)), 3, 4), cells[3:7])


class NoBlock(Same):
    """Point 10: none where the place is closed."""

    def test_no_cell(self):
        for place in (8, 9, 128, 65535, -1):
            with self.subTest(place=place):
                self.same(block_at(state_with((PUT,) * 8), place), ())
                self.same(block_at(state_of(), place), ())
        self.same(block_at(state_of(), 0), ())

    def test_a_page_that_may_not_be_run(self):
        for rights in (0, 1, 2, 3):
            for place in (8, 15):
                with self.subTest(rights=rights, place=place):
                    self.same(block_at(state_with((PUT,) * 24, (7, rights, 7)), place), ())


if __name__ == "__main__":
    unittest.main()
