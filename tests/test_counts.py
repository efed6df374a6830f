"""Points 2 and 27: asitruns.host.counts."""

import unittest

from asitruns.host.counts import rows_to
from asitruns.host.deal import deal
from asitruns.host.machine import do_host
from asitruns.middle.lead import lead
from asitruns.middle.shorten import shorten
from helper import FreeBlock, Same, close_rows, mixed, some_rows, some_state

# Where exits stand in the rows that have some.
LEAVES = {"get": (4,), "set": (4, 5), "div": (4,), "right": (3,), "out": (1,), "when": (2, 3), "back": (1, 2)}

OLD_BOXES = tuple([("old", k) for k in range(8)])
OLD_MARKS = tuple([("old", k) for k in range(3)])


def exit_of(how):
    return (how, 5, OLD_BOXES, OLD_MARKS, 1)


class RowsTo(Same):

    def test_each_word_that_names_exits(self):
        ahead = (("num", 0, 5), ("num", 1, 6), ("keep", 2, 1), ("load", 2, 2))
        exits = (exit_of("on"),) * 8
        for row, numbers in ((("get", 1, 2, 3, 4), (4,)), (("set", 1, 2, 3, 4, 5), (4, 5)), (("div", 1, 2, 3, 4), (4,)),
                             (("right", 1, 2, 4), (4,)), (("hear", 4), ()), (("tell", 4), ()), (("add", 4, 4, 4), ()),
                             (("num", 4, 4), ()), (("keep", 4, 4), ()), (("load", 4, 4), ()), (("nought", 4, 4), ())):
            host = (0, 8, ahead + (row, ("out", 7)), exits)
            for number in range(7):
                self.same(rows_to(host, number), (5,) if number in numbers else ())
            self.same(rows_to(host, 7), (6,))
        for row, numbers in ((("out", 3), (3,)), (("when", 2, 3, 4), (3, 4)), (("back", 3, 4), (3, 4)),
                             (("back", 4, 2), (2, 4))):
            host = (0, 8, ahead + (row,), exits)
            for number in range(8):
                self.same(rows_to(host, number), (5,) if number in numbers else ())
            self.same(rows_to((0, 8, (row,), exits), numbers[0]), (1,))

    def test_an_exit_that_several_rows_name(self):
        rows = (("get", 1, 0, 0, 0), ("num", 1, 3), ("get", 2, 0, 0, 0), ("div", 2, 2, 1, 1), ("right", 1, 1, 0),
                ("out", 0))
        host = (0, 3, rows, (exit_of("closed"), exit_of("nought")))
        self.same(rows_to(host, 0), (1, 3, 5, 6))
        self.same(rows_to(host, 1), (4,))

    def test_a_row_that_names_an_exit_twice(self):
        for row in (("when", 0, 0, 0), ("back", 0, 0)):
            self.same(rows_to((0, 3, (("yes", 0), row), (exit_of("on"),)), 0), (2,))
        rows = (("set", 1, 1, 1, 0, 0), ("out", 0))
        self.same(rows_to((0, 3, rows, (exit_of("on"),)), 0), (1, 2))

    def test_numbers_that_are_none(self):
        host = (0, 3, (("num", 1, 9), ("out", 0)), (exit_of("on"), exit_of("halt")))
        for number in (1, 2, 3, 9, 1000, -1, -2, 10 ** 20):
            self.same(rows_to(host, number), ())

    def test_each_exit_of_dealt_blocks(self):
        for seed in range(60):
            rows = close_rows(seed, seed % 30) if seed % 3 else some_rows(seed, 1 + seed % 30)
            for block in (lead(seed, rows), shorten(seed, rows)[0], FreeBlock(seed, 40, 8).make(seed)):
                host = deal(block, 3 + seed % 14)
                for number in range(-1, len(host[3]) + 2):
                    asked = [count for count, row in enumerate(host[2], start=1)
                             if number in [row[part] for part in LEAVES.get(row[0], ())]]
                    self.same(rows_to(host, number), tuple(asked))

    def test_blocks_left_at_each_exit(self):
        # Each exit has a word of its own, so that what is told tells where the block was left.
        left = set()
        for seed in range(80):
            rows = close_rows(seed, seed % 12)
            host = deal(shorten(20, rows)[0], 3 + seed % 6)
            marked = host[:3] + (tuple([(str(number),) + way[1:] for number, way in enumerate(host[3])]),)
            for other in range(seed, seed + 15):
                told = do_host(marked, some_state(other), mixed(other, 3), ((), (0, 1), (2, 3))[other % 3])
                self.assertIn(told[5], rows_to(host, int(told[0])))
                left.add((seed, told[0]))
        self.assertGreater(len(left), 150)

    def test_what_is_handed_in_stays(self):
        host = deal(lead(0, close_rows(3, 10)), 5)
        first = rows_to(host, 0)
        self.same(rows_to(host, 0), first)
        self.assertEqual(host, deal(lead(0, close_rows(3, 10)), 5))


if __name__ == "__main__":
    unittest.main()
