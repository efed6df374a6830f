"""Points 2, 3 and 20: asitruns.host.deal."""

import unittest

from asitruns.host.deal import deal
from asitruns.host.looker import host_lets_by
from asitruns.host.machine import do_host
from asitruns.middle.done import do_block
from asitruns.middle.lead import lead
from asitruns.middle.shorten import shorten
from helper import (
    BOXES, FIRST, MARKS, NUMBERS, WORDS, FreeBlock, Maker, Same, close_rows, mixed, row_by_row, rows_of, some_rows,
    some_state,
)

HANDS = (3, 4, 8, 16)

# The words of rows that put something into a hand, and where in rows exits stand.
PUTS = ("num", "yes", "no", "box", "mark", "add", "sub", "mul", "over", "under", "wide", "rest", "nought", "high",
        "load", "get", "div", "hear")
LEAVES = {"get": (4,), "set": (4, 5), "div": (4,), "right": (3,), "out": (1,), "when": (2, 3), "back": (1, 2)}


def places(seed):
    return (seed % 40, 65535 - seed % 60)[seed // 2 % 2]


def widened(block, many):
    """The block with so many nodes in its table, the new ones at its end like others, or dead."""
    nodes = block[2]
    numbers = [number for number, node in enumerate(nodes) if node[0] in NUMBERS]
    while len(nodes) < many:
        number = len(nodes)
        new = ("add", numbers[0], numbers[number % len(numbers)])
        nodes += (nodes[number * 7 % len(block[2])], ("num", number), new)[number % 3:][:1]
    return block[:2] + (nodes,) + block[3:]


class Dealt(Same):

    def does_the_same(self, block, host, seeds):
        for seed in seeds:
            state = some_state(seed)
            given = mixed(seed + 5, seed % 4)
            watched = ((), (0,), (1, 3), (0, 1, 2, 3))[seed // 3 % 4]
            told = do_host(host, state, given, watched)
            self.same(told[:5], do_block(block, state, given, watched))
            self.assertTrue(1 <= told[5] <= len(host[2]))

    def sources_are_there(self, host):
        """Each exit that a row names has the hands and shelf places that rows ahead put something into."""
        hands = set()
        shelf = set()
        for row in host[2]:
            for part in LEAVES.get(row[0], ()):
                how, place, boxes, marks, done = host[3][row[part]]
                self.assertEqual((len(boxes), len(marks)), (8, 3))
                for source in boxes + marks + ((place,) if isinstance(place, tuple) else ()):
                    self.assertIn(source[0], ("hand", "shelf", "old"))
                    self.assertIn(source[1], {"hand": hands, "shelf": shelf, "old": range(8)}[source[0]])
                for source in marks:
                    self.assertTrue(source[0] != "old" or source[1] < 3)
            if row[0] in PUTS:
                hands.add(row[1])
            if row[0] == "keep":
                shelf.add(row[1])

    def holds(self, block, seeds, all_hands=HANDS):
        """All that point 20 asks for, of one middle block."""
        for many in all_hands:
            host = deal(block, many)
            self.assertEqual(host[:2], (block[0], many))
            self.assertIs(host_lets_by(block, host), True)
            self.sources_are_there(host)
            self.does_the_same(block, host, seeds)


class RowsDealt(Dealt):

    def test_one_row_of_each_word(self):
        for word in WORDS:
            for numbers in ("0 0 0", "1 2 3", "3 3 3", "7 6 63", "2 1 9", "4 5 40"):
                for place in (0, 65534, 65535):
                    with self.subTest(word=word, numbers=numbers, place=place):
                        rows = rows_of(f"{word} {numbers}")
                        self.holds(lead(place, rows), range(6))
                        self.holds(shorten(place, rows)[0], range(6))

    def test_plain_blocks(self):
        for seed in range(60):
            rows = close_rows(seed, seed) if seed % 3 else some_rows(seed, 1 + seed)
            with self.subTest(seed=seed):
                self.holds(lead(places(seed), rows), range(seed, seed + 5))

    def test_shortened_blocks(self):
        for seed in range(60, 120):
            rows = close_rows(seed, seed - 60) if seed % 3 else some_rows(seed, seed - 59)
            with self.subTest(seed=seed):
                block = shorten(places(seed), rows)[0]
                self.holds(block, range(seed, seed + 5))

    def test_what_the_rows_do(self):
        for seed in range(40):
            rows = close_rows(seed, seed % 20)
            host = deal(shorten(places(seed), rows)[0], 3 + seed % 14)
            for other in range(seed, seed + 4):
                state = some_state(other)
                given = mixed(other + 5, other % 4)
                told = do_host(host, state, given, (1, 3))
                self.same(told[:5], row_by_row(places(seed), rows, state, given, (1, 3)))

    def test_each_number_of_hands(self):
        for seed in (7, 8, 9):
            block = lead(places(seed), close_rows(seed, 30))
            self.holds(block, range(seed, seed + 4), range(3, 17))

    def test_sixty_rows_of_one_word(self):
        for row in ("put 1 0 5", "add 1 1 2", "sub 1 2 1", "mul 3 1 1", "div 1 1 2", "get 1 1 3", "set 1 4 3",
                    "tell 1 0 0", "hear 1 0 0"):
            with self.subTest(row=row):
                self.holds(lead(20, rows_of(*[row] * 60)), range(3))
                self.holds(shorten(20, rows_of(*[row] * 60))[0], range(3))


class OtherBlocksDealt(Dealt):

    def test_blocks_made_in_many_ways(self):
        for seed in range(120):
            rows = close_rows(seed, seed % 14) if seed % 4 else some_rows(seed, 1 + seed % 14)
            with self.subTest(seed=seed):
                block = Maker(places(seed), rows, seed).make()[0]
                self.holds(block, range(seed, seed + 5))

    def test_made_blocks_of_sixty_rows_and_three_hundred_nodes(self):
        for seed in (1, 2):
            rows = close_rows(seed, 59)
            block = lead(places(seed), rows)
            self.assertEqual(len(block[1]), 60)
            self.holds(widened(block, 300), range(seed, seed + 4))
            self.holds(widened(shorten(places(seed), rows)[0], 300), range(seed, seed + 4))

    def test_blocks_that_are_led_of_no_rows(self):
        words = {}
        for seed in range(300):
            block = FreeBlock(seed, 12 + seed % 60, seed % 12).make(places(seed))
            with self.subTest(seed=seed):
                self.holds(block, range(seed, seed + 3))
            for led in block[3] + (block[4],):
                words[led[0]] = True
        asked = ("get", "set", "div", "tell", "hear", "right", "halt", "bad", "on", "when", "go", "back")
        self.assertEqual(sorted(words), sorted(asked))

    def test_blocks_that_are_led_of_no_rows_with_three_hundred_nodes(self):
        for seed in range(12):
            block = widened(FreeBlock(seed, 300, 60).make(places(seed)), 300)
            with self.subTest(seed=seed):
                self.holds(block, range(seed, seed + 3))

    def test_three_hundred_nodes_that_all_hang_on_one_another(self):
        # Each of the boxes at the end is at the end of a long chain.
        nodes = FIRST
        while len(nodes) < 300:
            last = len(nodes) - 1 if len(nodes) > 11 else 1
            nodes += ((("add", "sub", "mul")[len(nodes) % 3], last, len(nodes) // 2 % 8),)
        for boxes in (tuple(range(292, 300)), (299,) + BOXES[1:], tuple(range(20, 300, 36))):
            block = (9, (0,), nodes, (), ("on", (3,), boxes, MARKS))
            self.holds(block, range(6))

    def test_an_items_node_ahead_of_those_that_the_item_names(self):
        nodes = (("item", 1), ("nought", 0), ("item", 0)) + FIRST + (("num", 3), ("add", 2, 14), ("add", 0, 15))
        boxes = tuple(range(3, 11))
        marks = (11, 12, 13)
        led = (("get", 0, (3, 14), boxes, marks), ("hear", 1, (), boxes, marks),
               ("set", 2, (3, 14, 16), (0,) + boxes[1:], marks), ("div", 3, (16, 0), boxes[1:] + (2,), (1, 12, 13)))
        block = (65535, (1, 2, 3, 4), nodes, led, ("go", (15,), (16,) * 8, (1, 1, 1)))
        self.holds(block, range(30))

    def test_an_item_that_brings_what_no_node_tells(self):
        for word, numbers in (("get", (4, 7)), ("div", (1, 2)), ("hear", ())):
            led = ((word, 0, numbers, BOXES, MARKS), ("tell", 0, (0,), BOXES, MARKS))
            self.holds((0, (0,), FIRST, led, ("on", (3,), BOXES, MARKS)), range(12))

    def test_nodes_that_stand_many_times(self):
        nodes = FIRST + (("num", 3), ("add", 1, 11), ("num", 3), ("add", 1, 13), ("add", 12, 14), ("add", 14, 12),
                         ("yes",), ("yes",), ("no",), ("box", 1), ("mark", 2))
        led = (("get", 0, (14, 13), (12, 14, 15, 16, 20, 1, 1, 1), (17, 18, 19)),)
        block = (0, (0,), nodes, led, ("when", (21, 4, 5), (16, 15, 14, 12, 1, 20, 11, 13), (21, 10, 18)))
        self.holds(block, range(12))

    def test_truths_as_ways(self):
        for node in (("yes",), ("no",), ("mark", 1), ("nought", 2), ("under", 1, 2)):
            block = (0, (0, 0), FIRST + (node,), (), ("when", (11, 40, 50), BOXES, (11, 9, 11)))
            self.holds(block, range(8))

    def test_a_back_saved_or_not(self):
        nodes = FIRST + (("num", 3), ("add", 1, 11), ("high", 12))
        block = (65535, (0, 0), nodes, (), ("back", (), (12, 11) + BOXES[2:], (13, 9, 13)))
        self.holds(block, range(8))
        for many in HANDS:
            state = some_state(3)
            none = (state[0], state[1], state[2], None) + state[4:]
            self.assertEqual(do_host(deal(block, many), none, [], ())[0], "bad")
            saved = (state[0], state[1], state[2], (9, (True, True, False))) + state[4:]
            told = do_host(deal(block, many), saved, [], ())
            self.assertEqual((told[0], told[1][0], told[1][2:4], told[3]), ("on", 9, ((True, True, False), None), 2))

    def test_told_again(self):
        block = FreeBlock(5, 60, 9).make(7)
        first = deal(block, 5)
        deal(FreeBlock(6, 60, 9).make(7), 5)
        self.same(deal(block, 5), first)
        self.assertEqual(block, FreeBlock(5, 60, 9).make(7))
        hash(first)


if __name__ == "__main__":
    unittest.main()
