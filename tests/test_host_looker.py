"""Points 2, 3 and 21: asitruns.host.looker."""

import unittest

from asitruns.host.deal import deal
from asitruns.host.looker import host_lets_by
from asitruns.host.machine import do_host
from asitruns.middle.done import do_block
from asitruns.middle.lead import lead
from asitruns.middle.shorten import shorten
from helper import (
    BOXES, FIRST, MARKS, FreeBlock, Maker, Same, changed, close_rows, mixed, paths_of, rows_of, some_rows, some_state,
)

# A middle block with an item of each word.
NODES = FIRST + (("num", 4), ("item", 0), ("item", 1), ("item", 3), ("nought", 14), ("high", 14), ("rest", 12, 13),
                 ("num", 5), ("add", 14, 13), ("nought", 19), ("high", 19), ("over", 14, 13), ("num", 3))
ROWS = rows_of("put 1 0 4", "get 2 0 4", "hear 3 0 0", "tell 3 0 0", "div 4 2 3", "set 4 0 5", "add 5 4 3",
               "right 5 0 3")
LATER = (0, 11, 12, 13, 14, 19, 6, 7)
ITEMS = (
    ("get", 1, (0, 11), (0, 11, 2, 3, 4, 5, 6, 7), MARKS),
    ("hear", 2, (), (0, 11, 12, 3, 4, 5, 6, 7), MARKS),
    ("tell", 3, (13,), (0, 11, 12, 13, 4, 5, 6, 7), MARKS),
    ("div", 4, (12, 13), (0, 11, 12, 13, 4, 5, 6, 7), MARKS),
    ("set", 5, (0, 18, 14), (0, 11, 12, 13, 14, 5, 6, 7), (15, 16, 17)),
    ("right", 7, (19, 23), LATER, (20, 21, 22)),
)
BLOCK = (20, ROWS, NODES, ITEMS, ("on", (28,), LATER, (20, 21, 22)))

# The same in rows of a host with six hands; what is behind a row is the node that it puts.
HOST_ROWS = (
    ("box", 0, 0),
    ("num", 1, 4),              # 11
    ("keep", 0, 1),
    ("get", 2, 0, 1, 0),        # 12
    ("hear", 3),                # 13
    ("tell", 3),
    ("keep", 999, 2),
    ("div", 4, 2, 3, 1),        # 14
    ("nought", 1, 4),           # 15
    ("keep", 1, 1),
    ("high", 1, 4),             # 16
    ("keep", 2, 1),
    ("rest", 5, 2, 3),          # 17
    ("num", 1, 5),              # 18
    ("set", 0, 1, 4, 2, 3),
    ("over", 2, 4, 3),          # 22
    ("add", 5, 4, 3),           # 19
    ("nought", 0, 5),           # 20
    ("keep", 3, 0),
    ("high", 0, 5),             # 21
    ("num", 1, 3),              # 23
    ("right", 5, 1, 4),
    ("out", 5),
)
OLD_MARKS = (("old", 0), ("old", 1), ("old", 2))
AT_DIV = (("hand", 0), ("shelf", 0), ("hand", 2), ("hand", 3), ("old", 4), ("old", 5), ("old", 6), ("old", 7))
AT_SET = (("old", 0), ("shelf", 0), ("shelf", 999), ("hand", 3), ("hand", 4), ("old", 5), ("old", 6), ("old", 7))
AT_END = (("old", 0), ("shelf", 0), ("shelf", 999), ("hand", 3), ("hand", 4), ("hand", 5), ("old", 6), ("old", 7))
SET_MARKS = (("shelf", 1), ("shelf", 2), ("hand", 5))
END_MARKS = (("shelf", 3), ("hand", 0), ("hand", 2))
EXITS = (
    ("closed", 21, (("old", 0), ("hand", 1)) + tuple([("old", k) for k in range(2, 8)]), OLD_MARKS, 1),
    ("nought", 24, AT_DIV, OLD_MARKS, 4),
    ("closed", 25, AT_SET, SET_MARKS, 5),
    ("shut", 26, AT_SET, SET_MARKS, 6),
    ("closed", 27, AT_END, END_MARKS, 7),
    ("on", 28, AT_END, END_MARKS, 8),
)
HOST = (20, 6, HOST_ROWS, EXITS)

OLD_BOXES = tuple([("old", k) for k in range(8)])


def row_number(*row):
    return HOST_ROWS.index(row)


def ending(word, numbers, nodes=(), rows=(0, 0, 0), place=40):
    """A middle block of its exit alone."""
    return (place, rows, FIRST + nodes, (), (word, numbers, BOXES, MARKS))


class Looking(Same):

    def lets(self, block, host):
        self.assertIs(host_lets_by(block, host), True)
        self.does_the_same(block, host, range(10))

    def refuses(self, block, host):
        self.assertIs(host_lets_by(block, host), False, (block, host))

    def refuses_host(self, path, *news):
        """Not let by with one of these things at the path of the host block."""
        for new in news:
            other = changed(HOST, path, new)
            self.assertNotEqual(other, HOST)
            self.refuses(BLOCK, other)

    def refuses_block(self, path, *news):
        for new in news:
            other = changed(BLOCK, path, new)
            self.assertNotEqual(other, BLOCK)
            self.refuses(other, HOST)

    def does_the_same(self, block, host, seeds):
        for seed in seeds:
            state = some_state(seed)
            given = mixed(seed + 5, seed % 4)
            watched = ((), (0,), (1, 3), (0, 1, 2, 3))[seed // 3 % 4]
            self.same(do_host(host, state, given, watched)[:5], do_block(block, state, given, watched))


class LetBy(Looking):

    def test_a_host_block_written_by_hand(self):
        self.lets(BLOCK, HOST)

    def test_dealt_blocks(self):
        for seed in range(60):
            rows = close_rows(seed, seed) if seed % 3 else some_rows(seed, 1 + seed)
            for block in (lead(seed, rows), shorten(65500 + seed % 36, rows)[0], FreeBlock(seed, 50, 8).make(seed)):
                host = deal(block, 3 + seed % 14)
                with self.subTest(seed=seed):
                    self.lets(block, host)

    def test_each_number_of_hands(self):
        for many in range(6, 17):
            self.lets(BLOCK, changed(HOST, (1,), many))

    def test_the_middle_block_of_another(self):
        hosts = [deal(lead(20, close_rows(seed, 6)), 5) for seed in range(8)]
        for seed in range(8):
            block = lead(20, close_rows(seed, 6))
            for number, host in enumerate(hosts):
                self.assertIs(host_lets_by(block, host), number == seed)

    def test_each_exit_word(self):
        cases = (
            (ending("halt", ()), (("out", 0),), (("halt", 42, OLD_BOXES, OLD_MARKS, 2),)),
            (ending("bad", ()), (("out", 0),), (("bad", 42, OLD_BOXES, OLD_MARKS, 2),)),
            (ending("on", (9,)), (("out", 0),), (("on", 9, OLD_BOXES, OLD_MARKS, 3),)),
            (ending("go", (5,)), (("box", 2, 5), ("out", 0)), (("on", ("hand", 2), OLD_BOXES, OLD_MARKS, 3),)),
            (ending("when", (9, 7, 8)), (("mark", 2, 1), ("when", 2, 0, 1)),
             (("on", 7, OLD_BOXES, OLD_MARKS, 3), ("on", 8, OLD_BOXES, OLD_MARKS, 3))),
            (ending("back", ()), (("back", 1, 0),),
             (("on", 43, OLD_BOXES, OLD_MARKS, 3), ("bad", 42, OLD_BOXES, OLD_MARKS, 2))),
        )
        for k, (block, rows, exits) in enumerate(cases):
            with self.subTest(word=block[4][0]):
                self.lets(block, (40, 3, rows, exits))
            for j, other in enumerate(cases):
                if j != k:
                    self.refuses(block, (40, 3) + other[1:])
                    self.refuses(block, (40, 3, rows, other[2] * 2))

    def test_places_by_their_rest(self):
        rows = rows_of("get 1 0 4", "set 1 0 4", "halt 0 0 0")
        for place in (65533, 65534, 65535):
            block = lead(place, rows)
            host = deal(block, 3)
            self.lets(block, host)
            places = [way[1] for way in host[3]]
            self.assertEqual(places, [place, (place + 1) % 65536, (place + 2) % 65536, (place + 2) % 65536])
            for number, told in enumerate(places):
                for other in (told + 65536, told - 65536, (told + 1) % 65536):
                    self.refuses(block, changed(host, (3, number, 1), other))


class HandsAndShelf(Looking):
    """Point 21: which node each hand and each shelf place has."""

    def test_a_row_of_a_node_that_the_table_has_not(self):
        # At the end of the rows ahead of the last one, where nothing reads hand 1 behind.
        last = len(HOST_ROWS) - 1
        wrong = [("num", 1, 6), ("num", 1, 65536), ("num", 1, -1), ("yes", 1), ("no", 1), ("box", 1, 8), ("box", 1, -1),
                 ("mark", 1, 3), ("mark", 1, -1), ("add", 1, 3, 4), ("sub", 1, 4, 3), ("mul", 1, 4, 3),
                 ("over", 1, 3, 4), ("under", 1, 4, 3), ("wide", 1, 4, 3), ("rest", 1, 4, 3), ("nought", 1, 3),
                 ("high", 1, 3), ("add", 1, 4, 0), ("add", 1, 0, 3)]
        for row in wrong:
            self.refuses(BLOCK, changed(HOST, (2,), HOST_ROWS[:last] + (row,) + HOST_ROWS[last:]))
        right = [("num", 1, 4), ("num", 1, 5), ("box", 1, 7), ("mark", 1, 2), ("add", 1, 4, 3), ("nought", 1, 5),
                 ("high", 1, 4), ("over", 1, 4, 3)]
        for row in right:
            self.lets(BLOCK, changed(HOST, (2,), HOST_ROWS[:last] + (row,) + HOST_ROWS[last:]))

    def test_a_hand_that_has_none_is_read(self):
        for row in (("add", 1, 5, 3), ("add", 1, 4, 5), ("nought", 1, 5), ("keep", 7, 5), ("tell", 5)):
            for at in (0, 3, 5):
                rows = HOST_ROWS[:at] + (row,) + HOST_ROWS[at:]
                self.refuses(BLOCK, changed(HOST, (2,), rows))
        self.refuses_host((2, row_number("keep", 0, 1), 2), 5, 2, 3, 4)
        self.refuses_host((2, row_number("get", 2, 0, 1, 0), 2), 5, 2, 3, 4)

    def test_a_shelf_place_that_has_none_is_read(self):
        for at in (0, 5, len(HOST_ROWS) - 1):
            for s in (4, 500, 998):
                self.refuses(BLOCK, changed(HOST, (2,), HOST_ROWS[:at] + (("load", 1, s),) + HOST_ROWS[at:]))
        # The same place is read behind a keep.
        at = len(HOST_ROWS) - 1
        for s in (0, 1, 2, 3, 999):
            self.lets(BLOCK, changed(HOST, (2,), HOST_ROWS[:at] + (("load", 1, s),) + HOST_ROWS[at:]))

    def test_keep_and_load_carry_a_node(self):
        at = row_number("div", 4, 2, 3, 1)
        for number, s in ((2, 999), (3, 7)):
            ahead = HOST_ROWS[:at] + (("keep", 7, 3), ("num", number, 4), ("load", number, s)) + HOST_ROWS[at:]
            self.lets(BLOCK, changed(HOST, (2,), ahead))
            self.refuses(BLOCK, changed(HOST, (2,), ahead[:at + 2] + ahead[at + 3:]))

    def test_a_shelf_place_holds_what_was_kept_last(self):
        at = row_number("get", 2, 0, 1, 0)
        self.refuses(BLOCK, changed(HOST, (2,), HOST_ROWS[:at] + (("keep", 0, 0),) + HOST_ROWS[at:]))

    def test_a_hand_holds_what_was_put_last(self):
        for hand, at in ((0, 3), (1, 3), (2, 7), (3, 7), (4, 14), (3, 16), (5, 17), (5, 21), (1, 21), (4, 22), (5, 22)):
            rows = HOST_ROWS[:at] + (("box", hand, 6),) + HOST_ROWS[at:]
            self.refuses(BLOCK, changed(HOST, (2,), rows))

    def test_what_an_item_brings_where_no_node_tells_it(self):
        led = (("get", 0, (0, 1), BOXES, MARKS),)
        block = (40, (0,), FIRST, led, ("on", (7,), BOXES, MARKS))
        exits = (("closed", 40, OLD_BOXES, OLD_MARKS, 0), ("on", 7, OLD_BOXES, OLD_MARKS, 1))
        rows = (("box", 0, 0), ("box", 1, 1), ("get", 0, 0, 1, 0), ("out", 1))
        self.lets(block, (40, 3, rows, exits))
        # The hand has none then, although it had one.
        self.refuses(block, (40, 3, rows[:3] + (("keep", 0, 0), ("out", 1)), exits))
        self.lets(block, (40, 3, rows[:3] + (("keep", 0, 1), ("out", 1)), exits))
        again = (("on", 7, (("hand", 0),) + OLD_BOXES[1:], OLD_MARKS, 1),)
        self.refuses(block, (40, 3, rows, exits[:1] + again))

    def test_nodes_that_count_as_one(self):
        # 12 and 14 are one, as 11 and 13 are; 15 is none of them.
        nodes = FIRST + (("num", 3), ("add", 1, 11), ("num", 3), ("add", 1, 13), ("add", 11, 1), ("high", 14),
                         ("high", 12), ("box", 1), ("add", 18, 13))
        rows = (("num", 0, 3), ("box", 1, 1), ("add", 2, 1, 0), ("high", 0, 2), ("out", 0))
        for number in (12, 14, 19):
            for mark in (16, 17):
                block = (40, (0,), nodes, (), ("on", (7,), (number,) + BOXES[1:], (mark,) + MARKS[1:]))
                exits = (("on", 7, (("hand", 2),) + OLD_BOXES[1:], (("hand", 0),) + OLD_MARKS[1:], 1),)
                self.lets(block, (40, 3, rows, exits))
        block = (40, (0,), nodes, (), ("on", (7,), (15,) + BOXES[1:], (16,) + MARKS[1:]))
        self.refuses(block, (40, 3, rows, exits))
        block = (40, (0,), nodes, (), ("on", (7,), (12, 18) + BOXES[2:], (16,) + MARKS[1:]))
        self.lets(block, (40, 3, rows, exits))
        self.lets(block, (40, 3, rows, (changed(exits[0], (2, 1), ("hand", 1)),)))

    def test_items_that_bring_the_same_are_not_one(self):
        led = (("hear", 0, (), BOXES, MARKS), ("hear", 1, (), BOXES, MARKS))
        nodes = FIRST + (("item", 0), ("item", 1), ("item", 0))
        block = (40, (0, 0), nodes, led, ("on", (7,), (12, 13) + BOXES[2:], MARKS))
        way = ("on", 7, (("hand", 1), ("hand", 0)) + OLD_BOXES[2:], OLD_MARKS, 2)
        self.lets(block, (40, 3, (("hear", 0), ("hear", 1), ("out", 0)), (way,)))
        self.refuses(block, (40, 3, (("hear", 1), ("hear", 0), ("out", 0)), (way,)))
        self.refuses(block, (40, 3, (("hear", 0), ("hear", 0), ("out", 0)), (way,)))

    def test_old_ones_where_the_table_has_none(self):
        # No node but num 3 and yes: marks of back for what was saved may be old ones all the same.
        block = (40, (0,), (("num", 3), ("yes",)), (), ("back", (), (0,) * 8, (1,) * 3))
        rows = (("num", 0, 3), ("yes", 1), ("back", 0, 1))
        boxes = (("hand", 0),) * 8
        exits = (("bad", 40, boxes, (("hand", 1),) * 3, 0), ("on", 41, boxes, OLD_MARKS, 1))
        self.lets(block, (40, 3, rows, exits))
        for k in range(8):
            self.refuses(block, (40, 3, rows, changed(exits, (1, 2, 0), ("old", k))))
            self.refuses(block, (40, 3, rows, changed(exits, (0, 2, 0), ("old", k))))
            self.refuses(block, (40, 3, rows, changed(exits, (0, 3, 0), ("old", k))))

    def test_an_old_one_counts_as_its_node(self):
        # Boxes and marks of one number are not mixed up.
        block = (40, (0,), FIRST, (), ("on", (7,), (7, 6, 5, 4, 3, 2, 1, 0), (10, 9, 8)))
        way = ("on", 7, OLD_BOXES[::-1], OLD_MARKS[::-1], 1)
        self.lets(block, (40, 3, (("out", 0),), (way,)))
        for path in ((2, 0), (2, 7), (3, 0), (3, 2)):
            for k in (1, 8, -1, 3, ""):
                self.refuses(block, (40, 3, (("out", 0),), (changed(way, path, ("old", k)),)))
        self.lets(block, (40, 3, (("box", 1, 7), ("mark", 2, 2), ("out", 0)),
                          (("on", 7, (("hand", 1),) + OLD_BOXES[6::-1], (("hand", 2),) + OLD_MARKS[1::-1], 1),)))


class Items(Looking):
    """Point 21: item rows come in the order of the items, and leave as they do."""

    def at_items(self):
        words = ("get", "hear", "tell", "div", "set", "right")
        return [number for number, row in enumerate(HOST_ROWS) if row[0] in words]

    def test_an_item_row_lacking(self):
        for at in self.at_items():
            self.refuses(BLOCK, changed(HOST, (2,), HOST_ROWS[:at] + HOST_ROWS[at + 1:]))

    def test_an_item_row_doubled(self):
        for at in self.at_items():
            self.refuses(BLOCK, changed(HOST, (2,), HOST_ROWS[:at] + HOST_ROWS[at:at + 1] + HOST_ROWS[at:]))

    def test_item_rows_out_of_order(self):
        at = row_number("hear", 3)
        exchanged = HOST_ROWS[:at - 1] + (HOST_ROWS[at], HOST_ROWS[at - 1]) + HOST_ROWS[at + 1:]
        self.refuses(BLOCK, changed(HOST, (2,), exchanged))
        tells = (("tell", 0, (0,), BOXES, MARKS), ("tell", 1, (1,), BOXES, MARKS))
        block = (40, (0, 0), FIRST, tells, ("on", (7,), BOXES, MARKS))
        rows = (("box", 0, 0), ("box", 1, 1), ("tell", 0), ("tell", 1), ("out", 0))
        exits = (("on", 7, OLD_BOXES, OLD_MARKS, 2),)
        self.lets(block, (40, 3, rows, exits))
        self.refuses(block, (40, 3, rows[:2] + (("tell", 1), ("tell", 0), ("out", 0)), exits))

    def test_an_item_row_of_another_word(self):
        self.refuses_host((2, row_number("get", 2, 0, 1, 0), 0), "div")
        self.refuses_host((2, row_number("div", 4, 2, 3, 1), 0), "get")
        self.refuses_host((2, row_number("tell", 3), 0), "hear")
        self.refuses_host((2, row_number("hear", 3), 0), "tell")
        self.refuses_host((2, row_number("right", 5, 1, 4)), ("tell", 5), ("set", 5, 1, 4, 4, 4), ("get", 0, 5, 1, 4))
        self.refuses_block((3, 0, 0), "div", "right")
        self.refuses_block((3, 5, 0), "div", "get")

    def test_an_item_row_with_hands_of_other_nodes(self):
        self.refuses_host((2, row_number("get", 2, 0, 1, 0), 2), 1)
        self.refuses_host((2, row_number("get", 2, 0, 1, 0), 3), 0)
        self.refuses_host((2, row_number("get", 2, 0, 1, 0)), ("get", 2, 1, 0, 0))
        self.refuses_host((2, row_number("tell", 3), 1), 0, 1, 2)
        self.refuses_host((2, row_number("div", 4, 2, 3, 1)), ("div", 4, 3, 2, 1), ("div", 4, 2, 2, 1),
                          ("div", 4, 3, 3, 1))
        for place in (1, 2, 3):
            others = [k for k in range(5) if k != (0, 1, 4)[place - 1]]
            self.refuses_host((2, row_number("set", 0, 1, 4, 2, 3), place), *others)
        self.refuses_host((2, row_number("right", 5, 1, 4)), ("right", 1, 5, 4), ("right", 4, 1, 4), ("right", 5, 4, 4))
        for number in range(6):
            for k in range(len(ITEMS[number][2])):
                self.refuses_block((3, number, 2, k), *[node for node in range(24) if node != ITEMS[number][2][k]])

    def test_where_it_is_put(self):
        # Another hand than the one that later rows read.
        self.refuses_host((2, row_number("get", 2, 0, 1, 0), 1), 3, 4, 5)
        self.refuses_host((2, row_number("hear", 3), 1), 0, 1, 2, 4, 5)
        self.refuses_host((2, row_number("div", 4, 2, 3, 1), 1), 0, 1, 2, 3, 5)

    def test_more_item_rows_than_items(self):
        last = len(HOST_ROWS) - 1
        for row in (("tell", 3), ("hear", 0), ("right", 5, 1, 4), ("get", 1, 0, 0, 0)):
            self.refuses(BLOCK, changed(HOST, (2,), HOST_ROWS[:last] + (row,) + HOST_ROWS[last:]))

    def test_items_that_come_behind_the_last_row(self):
        self.refuses(BLOCK, changed(HOST, (2,), HOST_ROWS[:-2] + (HOST_ROWS[-1], HOST_ROWS[-2])))
        self.refuses(BLOCK, changed(HOST, (2,), HOST_ROWS[:-2] + HOST_ROWS[-1:] + HOST_ROWS[-2:]))
        self.refuses(BLOCK, changed(HOST, (2,), HOST_ROWS[:-2] + HOST_ROWS[-1:]))
        self.refuses_block((3,), ITEMS + (("tell", 7, (13,), LATER, (20, 21, 22)),))
        self.refuses_block((3,), ITEMS[:-1], ITEMS[1:], ())

    def test_an_exit_of_an_item(self):
        words = ("closed", "nought", "shut", "on", "halt", "bad", "more", "")
        for number, (how, place, boxes, marks, done) in enumerate(EXITS):
            self.refuses_host((3, number, 0), *[word for word in words if word != how], 0)
            self.refuses_host((3, number, 1), place + 1, place - 1, 0, place + 65536, -1, "", ("hand", 0), ("hand", 3))
            self.refuses_host((3, number, 4), done + 1, done - 1, -1, 0, 60, "", ())

    def test_boxes_and_marks_of_an_exit(self):
        for number, way in enumerate(EXITS):
            for part, word in ((2, "box"), (3, "mark")):
                for k, source in enumerate(way[part]):
                    others = [("old", (k + 1) % (8 if part == 2 else 3)), ("hand", 9), ("hand", -1), ("shelf", 1000),
                              ("shelf", 700), ("shelf", -1), ("old", 8), ("old", -1), ("box", k), ("", 0), ("hand", ""),
                              ("hand",), ("hand", 0, 0), (), "", 0, ("num", 4), "old", (0, "hand"), source + (0,)]
                    self.refuses_host((3, number, part, k), *others)

    def test_an_exit_with_other_counts_of_sources(self):
        for number, way in enumerate(EXITS):
            for part in (2, 3):
                told = way[part]
                self.refuses_host((3, number, part), told[:-1], told[1:], told + told[-1:], (), "", 0)
            self.refuses_host((3, number), way[:-1], way + (0,), way[1:], (), "", 0)

    def test_an_exit_that_is_not_there(self):
        self.refuses_host((3,), EXITS[:-1], EXITS[:3], ())
        for at, row in enumerate(HOST_ROWS):
            if row[0] in ("get", "div", "set", "right", "out"):
                self.refuses_host((2, at, len(row) - 1), 6, -1, 60, "", ())
        self.refuses_host((2, row_number("set", 0, 1, 4, 2, 3), 4), 3, 6, -1)
        self.refuses_host((2, row_number("set", 0, 1, 4, 2, 3)), ("set", 0, 1, 4, 3, 2))

    def test_sources_are_those_held_as_the_row_is_begun(self):
        # The div puts over the hand that its exit tells as box 2: it is there as the row is begun.
        led = (("div", 0, (1, 2), BOXES, MARKS),)
        block = (40, (0,), FIRST + (("item", 0),), led, ("on", (7,), (11,) + BOXES[1:], MARKS))
        exits = (("nought", 40, OLD_BOXES[:2] + (("hand", 1),) + OLD_BOXES[3:], OLD_MARKS, 0),
                 ("on", 7, (("hand", 1),) + OLD_BOXES[1:], OLD_MARKS, 1))
        rows = (("box", 0, 1), ("box", 1, 2), ("div", 1, 0, 1, 0), ("out", 1))
        self.lets(block, (40, 3, rows, exits))
        # What it brings is not there yet.
        block = changed(block, (3, 0, 3, 0), 11)
        self.refuses(block, (40, 3, rows, changed(exits, (0, 2, 0), ("hand", 1))))
        self.refuses(block, (40, 3, rows, exits))
        # Nor is what was put over it there behind.
        block = changed(block, (4, 2, 0), 2)
        self.refuses(block, (40, 3, rows, exits))

    def test_an_item_that_hangs_on_itself_or_on_later_ones(self):
        nodes = FIRST + (("item", 0), ("item", 1))
        for number in (11, 12):
            led = (("div", 0, (number, 2), BOXES, MARKS), ("hear", 0, (), BOXES, MARKS))
            block = (40, (0,), nodes, led, ("on", (7,), BOXES, MARKS))
            exits = (("nought", 40, OLD_BOXES, OLD_MARKS, 0), ("on", 7, OLD_BOXES, OLD_MARKS, 1))
            for hand in (0, 1):
                rows = (("box", 0, 2), ("div", 1, hand, 0, 0), ("hear", 1), ("out", 1))
                self.refuses(block, (40, 3, rows, exits))


class LastRow(Looking):
    """Point 21: the last row is that of the exit."""

    def test_a_last_row_of_another_word(self):
        self.refuses_host((2, len(HOST_ROWS) - 1), ("when", 0, 5, 5), ("back", 5, 5), ("back", 4, 5), ("tell", 3),
                          ("num", 1, 4), ("keep", 1, 1), ("load", 1, 1))
        for word in ("halt", "bad", "back", "go", "when"):
            self.refuses_block((4, 0), word)
        for word, numbers in (("halt", ()), ("bad", ()), ("back", ()), ("go", (19,)), ("when", (20, 28, 28))):
            self.refuses_block((4,), (word, numbers) + BLOCK[4][2:])

    def test_no_rows(self):
        self.refuses_host((2,), ())
        self.refuses(ending("on", (7,)), (40, 3, (), (("on", 7, OLD_BOXES, OLD_MARKS, 3),)))

    def test_a_last_word_ahead_of_the_last_row(self):
        for at in range(len(HOST_ROWS)):
            for row in (("out", 5), ("when", 0, 5, 5), ("back", 5, 5)):
                self.refuses(BLOCK, changed(HOST, (2,), HOST_ROWS[:at] + (row,) + HOST_ROWS[at:]))
        way = ("on", 7, OLD_BOXES, OLD_MARKS, 3)
        self.refuses(ending("on", (7,)), (40, 3, (("out", 0), ("out", 0)), (way,)))

    def test_places_told(self):
        for word in ("halt", "bad"):
            block = ending(word, ())
            for place, done, is_let in ((42, 2, True), (43, 2, False), (42, 3, False), (43, 3, False), (40, 0, False)):
                host = (40, 3, (("out", 0),), ((word, place, OLD_BOXES, OLD_MARKS, done),))
                self.assertIs(host_lets_by(block, host), is_let)
            for other in ("halt", "bad", "on"):
                host = (40, 3, (("out", 0),), ((other, 42, OLD_BOXES, OLD_MARKS, 2),))
                self.assertIs(host_lets_by(block, host), other == word)
        for place in (6, 8, 65543, ("hand", 0), (7,), "7"):
            host = (40, 3, (("box", 0, 5), ("out", 0)), (("on", place, OLD_BOXES, OLD_MARKS, 3),))
            self.refuses(ending("on", (7,)), host)

    def test_when(self):
        block = ending("when", (11, 7, 8), (("nought", 1), ("nought", 2)))
        ways = (("on", 7, OLD_BOXES, OLD_MARKS, 3), ("on", 8, OLD_BOXES, OLD_MARKS, 3))
        rows = (("box", 0, 1), ("nought", 0, 0), ("box", 1, 2), ("nought", 1, 1), ("when", 0, 0, 1))
        self.lets(block, (40, 3, rows, ways))
        for row in (("when", 1, 0, 1), ("when", 0, 1, 0), ("when", 0, 0, 0), ("when", 0, 1, 1), ("when", 2, 0, 1),
                    ("when", 3, 0, 1), ("when", 0, 0, 2), ("when", 0, -1, 1)):
            self.refuses(block, (40, 3, rows[:-1] + (row,), ways))
        for number in (0, 1):
            for part, others in ((0, ("halt", "bad", "shut")), (1, (9, ("hand", 0), -1)), (4, (2, 4))):
                for other in others:
                    self.refuses(block, (40, 3, rows, changed(ways, (number, part), other)))
        # Two ways to one place may be one exit.
        same = ending("when", (11, 7, 7), (("nought", 1), ("nought", 2)))
        self.lets(same, (40, 3, rows[:-1] + (("when", 0, 0, 0),), ways))

    def test_go(self):
        block = ending("go", (5,))
        way = ("on", ("hand", 1), OLD_BOXES, OLD_MARKS, 3)
        rows = (("box", 1, 5), ("box", 0, 6), ("keep", 5, 1), ("out", 0))
        self.lets(block, (40, 3, rows, (way,)))
        for place in (("hand", 0), ("hand", 2), ("hand", 3), ("hand", -1), ("hand", ""), ("shelf", 5), ("old", 5),
                      ("box", 5), 5, 0, 1, 43, "", (), ("hand",), ("hand", 1, 1), ("hand", ("hand", 1))):
            self.refuses(block, (40, 3, rows, (changed(way, (1,), place),)))
        for part, others in ((0, ("halt", "bad", "go")), (4, (2, 4))):
            for other in others:
                self.refuses(block, (40, 3, rows, (changed(way, (part,), other),)))

    def test_a_number_in_place_of_the_hand_of_go(self):
        # Also where the node is that very number.
        block = ending("go", (11,), (("num", 9),))
        self.lets(block, (40, 3, (("num", 0, 9), ("out", 0)), (("on", ("hand", 0), OLD_BOXES, OLD_MARKS, 3),)))
        self.refuses(block, (40, 3, (("num", 0, 9), ("out", 0)), (("on", 9, OLD_BOXES, OLD_MARKS, 3),)))
        block = ending("on", (9,), (("num", 9),))
        self.refuses(block, (40, 3, (("num", 0, 9), ("out", 0)), (("on", ("hand", 0), OLD_BOXES, OLD_MARKS, 3),)))

    def test_back(self):
        block = ending("back", ())
        ways = (("bad", 42, OLD_BOXES, OLD_MARKS, 2), ("on", 43, OLD_BOXES, OLD_MARKS, 3))
        rows = (("back", 0, 1),)
        self.lets(block, (40, 3, rows, ways))
        for path, others in (((0, 0), ("on", "halt", "closed")), ((0, 1), (43, 41, ("hand", 0), -1, "")),
                             ((0, 4), (3, 1)), ((1, 0), ("bad", "halt", "")), ((1, 4), (2, 4, -1, ""))):
            for other in others:
                self.refuses(block, (40, 3, rows, changed(ways, path, other)))
        for row in (("back", 1, 0), ("back", 0, 0), ("back", 1, 1), ("back", 0, 2), ("back", -1, 1)):
            self.refuses(block, (40, 3, (row,), ways))
        for number in (0, 1):
            for way in (ways[number][:-1], ways[number] + (0,), (), "", 0):
                self.refuses(block, (40, 3, rows, changed(ways, (number,), way)))
            for k in range(8):
                self.refuses(block, (40, 3, rows, changed(ways, (number, 2, k), ("old", (k + 1) % 8))))
            self.refuses(block, (40, 3, rows, changed(ways, (number, 2), OLD_BOXES[1:])))
        for k in range(3):
            self.refuses(block, (40, 3, rows, changed(ways, (0, 3, k), ("old", (k + 1) % 3))))

    def test_back_for_what_was_saved_has_any_place_and_any_marks(self):
        block = ending("back", ())
        ways = (("bad", 42, OLD_BOXES, OLD_MARKS, 2), ("on", 43, OLD_BOXES, OLD_MARKS, 3))
        for place in (0, 42, 65535, 65536, -1, 10 ** 9, -(10 ** 9)):
            self.lets(block, (40, 3, (("back", 0, 1),), changed(ways, (1, 1), place)))
        for place in (("hand", 0), "", "43", (), (43,)):
            self.refuses(block, (40, 3, (("back", 0, 1),), changed(ways, (1, 1), place)))
        for marks in ((), OLD_MARKS[1:], OLD_MARKS * 2, "", 5, (("hand", 9),) * 3, ((), "", 7)):
            self.lets(block, (40, 3, (("back", 0, 1),), changed(ways, (1, 3), marks)))


class Bounds(Looking):
    """Point 21: places, hands, shelf places, exits and forms."""

    def test_another_place(self):
        self.refuses_host((0,), 0, 19, 21, -20, 65556, "20", ())
        self.refuses_block((0,), 0, 19, 21)

    def test_a_place_beyond_its_bound(self):
        for place in (65536, -1, 70000):
            block = ending("on", (7,), place=place)
            self.refuses(block, (place, 3, (("out", 0),), (("on", 7, OLD_BOXES, OLD_MARKS, 3),)))
            block = ending("on", (place,))
            self.refuses(block, (40, 3, (("out", 0),), (("on", place, OLD_BOXES, OLD_MARKS, 3),)))
            for numbers in ((9, place, 7), (9, 7, place)):
                block = ending("when", numbers)
                ways = tuple([("on", number, OLD_BOXES, OLD_MARKS, 3) for number in numbers[1:]])
                self.refuses(block, (40, 3, (("mark", 0, 1), ("when", 0, 0, 1)), ways))
        for place in (0, 65535):
            block = ending("on", (place,))
            self.lets(block, (40, 3, (("out", 0),), (("on", place, OLD_BOXES, OLD_MARKS, 3),)))

    def test_many_out_of_three_to_sixteen(self):
        way = ("on", 7, OLD_BOXES, OLD_MARKS, 3)
        for many in (-3, 0, 1, 2, 17, 18, 100, "3", ()):
            self.refuses(ending("on", (7,)), (40, many, (("out", 0),), (way,)))
        for many in (3, 4, 15, 16):
            self.lets(ending("on", (7,)), (40, many, (("out", 0),), (way,)))
        self.refuses_host((1,), 3, 4, 5, 17)

    def test_a_hand_beyond_its_bound(self):
        way = ("on", 7, OLD_BOXES, OLD_MARKS, 3)
        block = ending("on", (7,), (("num", 5), ("add", 1, 1), ("nought", 1)))
        for many in (3, 16):
            for hand, is_let in ((0, True), (many - 1, True), (many, False), (many + 1, False), (-1, False),
                                 ("0", False)):
                for row in (("box", hand, 1), ("num", hand, 5), ("mark", hand, 1)):
                    self.assertIs(host_lets_by(block, (40, many, (row, ("out", 0)), (way,))), is_let)
                for row in (("add", hand, 0, 0), ("nought", hand, 0), ("load", hand, 0)):
                    rows = (("box", 0, 1), ("keep", 0, 0), row, ("out", 0))
                    self.assertIs(host_lets_by(block, (40, many, rows, (way,))), is_let)

    def test_hands_that_are_read_beyond_their_bound(self):
        self.refuses_host((2, row_number("keep", 0, 1), 2), 6, -1, 16)
        self.refuses_host((2, row_number("add", 5, 4, 3), 2), 6, -2, 16)
        self.refuses_host((2, row_number("add", 5, 4, 3), 3), 6, -3, 16)
        self.refuses_host((2, row_number("tell", 3), 1), 6, -3, 16)

    def test_a_shelf_place_beyond_its_bound(self):
        way = ("on", 7, (("shelf", 5),) + OLD_BOXES[1:], OLD_MARKS, 3)
        for s, is_let in ((0, True), (999, True), (1000, False), (-1, False), (1001, False), ("", False)):
            rows = (("box", 0, 0), ("keep", s, 0), ("load", 1, s), ("keep", 5, 1), ("out", 0))
            self.assertIs(host_lets_by(ending("on", (7,)), (40, 3, rows, (way,))), is_let)
            rows = (("box", 0, 0), ("keep", s, 0), ("out", 0))
            shelf = changed(way, (2, 0, 1), s)
            self.assertIs(host_lets_by(ending("on", (7,)), (40, 3, rows, (shelf,))), is_let)

    def test_exits_that_no_row_names_may_be_anything(self):
        for other in (0, "", (), ("on",), ("on", 7, (), (), 3), EXITS[0], None, [], ("hand", 5000)):
            self.lets(BLOCK, changed(HOST, (3,), EXITS + (other, other)))
        self.refuses_host((3,), (0,) + EXITS)

    def test_two_rows_that_name_one_exit(self):
        led = (("get", 0, (0, 1), BOXES, MARKS), ("right", 0, (1, 0), BOXES, MARKS))
        block = (40, (0,), FIRST, led, ("on", (7,), BOXES, MARKS))
        exits = (("closed", 40, OLD_BOXES, OLD_MARKS, 0), ("on", 7, OLD_BOXES, OLD_MARKS, 1))
        rows = (("box", 0, 0), ("box", 1, 1), ("get", 2, 0, 1, 0), ("right", 1, 0, 0), ("out", 1))
        self.lets(block, (40, 3, rows, exits))
        # Held at the one row, but not at the other.
        way = changed(exits[0], (2, 0), ("hand", 0))
        self.lets(block, (40, 3, rows, (way,) + exits[1:]))
        self.refuses(block, (40, 3, rows[:2] + (("get", 0, 0, 1, 0), ("box", 2, 0), ("right", 1, 2, 0), ("out", 1)),
                             (way,) + exits[1:]))

    def test_a_host_row_of_another_word_or_with_other_counts(self):
        for at, row in enumerate(HOST_ROWS):
            self.refuses_host((2, at), row[:-1], row + (0,), (), "", 0, ("",) + row[1:], ("item",) + row[1:],
                              (0,) + row[1:], (row[0].upper(),) + row[1:], row[1:], (row,))
        last = len(HOST_ROWS) - 1
        for row in (("item", 1, 0), ("nop",), ("div", 1), ("halt",), ("on", 5), ("go", 5), ("yes",), ("old", 1, 1)):
            self.refuses(BLOCK, changed(HOST, (2,), HOST_ROWS[:last] + (row,) + HOST_ROWS[last:]))

    def test_texts_and_tuples_for_numbers(self):
        for at, row in enumerate(HOST_ROWS):
            for k in range(1, len(row)):
                self.refuses_host((2, at, k), "", str(row[k]), (), (row[k],), ("hand", row[k]))

    def test_truths_for_numbers(self):
        # Each is worth what the number is, so only its kind tells.
        truths = {0: False, 1: True}
        for k, whole in enumerate((BLOCK, HOST)):
            for path in paths_of(whole):
                changes = []
                changed(whole, path, lambda part: changes.append(part))
                if isinstance(changes[0], int) and changes[0] in truths:
                    other = changed(whole, path, truths[changes[0]])
                    self.refuses(*((other, HOST), (BLOCK, other))[k])
        way = ("on", 1, OLD_BOXES, OLD_MARKS, 1)
        self.lets((1, (0,), FIRST, (), ("on", (1,), BOXES, MARKS)), (1, 3, (("out", 0),), (way,)))
        self.refuses((1, (0,), FIRST, (), ("on", (1,), BOXES, MARKS)), (True, 3, (("out", 0),), (way,)))
        self.refuses((1, (0,), FIRST, (), ("on", (1,), BOXES, MARKS)),
                     (1, 3, (("out", 0),), (changed(way, (1,), True),)))
        block = (1, (0,), FIRST, (), ("back", (), BOXES, MARKS))
        ways = (("bad", 1, OLD_BOXES, OLD_MARKS, 0), way)
        self.lets(block, (1, 3, (("back", 0, 1),), ways))
        for path, truth in (((0, 4), False), ((1, 4), True), ((1, 1), True), ((0, 1), True), ((1, 2, 1, 1), True)):
            self.refuses(block, (1, 3, (("back", 0, 1),), changed(ways, path, truth)))

    def test_other_counts_of_all(self):
        for new in ("", 0):
            self.refuses(changed(ending("on", (7,)), (3,), new), deal(ending("on", (7,)), 3))
        self.refuses_host((), HOST[:-1], HOST + (0,), HOST[1:], (), "", 0)
        self.refuses_host((2,), "", 0, HOST_ROWS[::-1], HOST_ROWS[1:])
        self.refuses_host((3,), "", 0, EXITS[::-1])
        self.refuses_block((), BLOCK[:-1], BLOCK + (0,), BLOCK[1:], (), "", 0)


class Tables(Looking):
    """Point 21: tables, items and exits of another form."""

    def test_a_node_of_another_form(self):
        for node in ((), ("add",), ("add", 0), ("add", 0, 0, 0), ("nought",), ("nought", 0, 0), ("num",), ("num", 0, 0),
                     ("box",), ("mark", 0, 0), ("item",), ("yes", 0), ("no", 0), ("plus", 0, 0), ("", 0), ("div", 0, 0),
                     ("get", 0, 0), ("Add", 0, 0), (0, 0, 0), "yes", "add", 0, ("num", ""), ("num", "0"), ("num", ()),
                     ("add", "0", 0), ("add", 0, "0"), ("box", ""), ("item", ""), (("add", 0, 0),), ((),),
                     ("keep", 0, 0), ("load", 0)):
            self.refuses_block((2,), NODES + (node,))
        self.lets(changed(BLOCK, (2,), NODES + (("yes",), ("add", 0, 0))), HOST)

    def test_numbers_out_of_their_range(self):
        for node in (("num", 65536), ("num", -1), ("box", 8), ("box", -1), ("mark", 3), ("mark", -1)):
            self.refuses_block((2,), NODES + (node,))
        self.lets(changed(BLOCK, (2,), NODES + (("num", 65535), ("box", 7), ("mark", 2), ("num", 0))), HOST)

    def test_an_item_that_brings_nothing(self):
        for number in (2, 4, 5, 6, 7, -1, -6, 60):
            self.refuses_block((2,), NODES + (("item", number),))
        for number in (0, 1, 3):
            self.lets(changed(BLOCK, (2,), NODES + (("item", number),)), HOST)

    def test_a_node_that_names_others_than_ahead(self):
        for word in ("add", "sub", "mul", "over", "under", "wide", "rest"):
            for number in (24, 25, 26, -1, -24):
                self.refuses_block((2,), NODES + ((word, 0, number), ("num", 0)),
                                   NODES + ((word, number, 0), ("num", 0)))
        for word in ("nought", "high"):
            for number in (24, 25, 26, -1, -24):
                self.refuses_block((2,), NODES + ((word, number), ("num", 0)))

    def test_a_truth_where_a_number_is_due_in_a_node(self):
        for number in (8, 10, 15, 16, 17, 22):
            for word in ("add", "sub", "mul", "over", "under", "wide", "rest"):
                self.refuses_block((2,), NODES + ((word, 0, number),), NODES + ((word, number, 0),))
            for word in ("nought", "high"):
                self.refuses_block((2,), NODES + ((word, number),))

    def test_an_item_of_another_form(self):
        for number, led in enumerate(ITEMS):
            self.refuses_block((3, number), led[:-1], led + (0,), led[1:], (), "", 0)
            self.refuses_block((3, number, 0), "", "halt", "Get", 0, "num")
            for part in (2, 3, 4):
                self.refuses_block((3, number, part), led[part] + (0,), led[part][:-1] or (1,), "", 0)
                for k in range(len(led[part])):
                    self.refuses_block((3, number, part, k), -1, 24, 60, "", ())

    def test_boxes_and_marks_also_where_no_exit_tells_them(self):
        # hear and tell leave nowhere: their boxes and marks may be any nodes, but nodes.
        for number in (1, 2):
            for part in (3, 4):
                self.lets(changed(BLOCK, (3, number, part, 0), 22 if part == 4 else 19), HOST)
                self.refuses_block((3, number, part, 0), 24, -1)

    def test_another_at(self):
        for number, led in enumerate(ITEMS):
            self.refuses_block((3, number, 1), 8, 9, 60, -1, -8, "", ())
            if led[0] not in ("hear", "tell"):
                self.refuses_block((3, number, 1), *[at for at in range(8) if at != led[1]])

    def test_an_at_beyond_the_rows_with_exits_to_match(self):
        led = (("get", 3, (0, 1), BOXES, MARKS),)
        for at, is_let in ((0, True), (2, True), (3, False), (4, False), (-1, False)):
            block = (40, (0, 0, 0), FIRST, (changed(led[0], (1,), at),), ("on", (7,), BOXES, MARKS))
            exits = (("closed", 40 + at, OLD_BOXES, OLD_MARKS, at), ("on", 7, OLD_BOXES, OLD_MARKS, 3))
            rows = (("box", 0, 0), ("box", 1, 1), ("get", 2, 0, 1, 0), ("out", 1))
            self.assertIs(host_lets_by(block, (40, 3, rows, exits)), is_let)

    def test_an_exit_of_another_form(self):
        way = BLOCK[4]
        self.refuses_block((4,), way[:-1], way + (0,), way[1:], (), "", 0)
        self.refuses_block((4, 0), "", "out", "On", 0)
        self.refuses_block((4, 1), (), (28, 28), 28, "", ("28",))
        for part in (2, 3):
            self.refuses_block((4, part), way[part][:-1], way[part] + (0,), (), "", 0)
            for k in range(len(way[part])):
                self.refuses_block((4, part, k), *[node for node in range(-1, 25) if node != way[part][k]], "", ())
        for word in ("halt", "bad", "back"):
            block = ending(word, ())
            host = deal(block, 3)
            self.lets(block, host)
            self.refuses(changed(block, (4, 1), (0,)), host)
        for word, numbers in (("when", (8, 7, 9)), ("go", (3,))):
            host = deal(ending(word, numbers), 3)
            self.lets(ending(word, numbers), host)
            for number in (-1, 11, 12, "", ()):
                self.refuses(ending(word, (number,) + numbers[1:]), host)
            self.refuses(ending(word, numbers + (0,)), host)
            self.refuses(ending(word, numbers[:-1]), host)

    def test_rows_none_or_more_than_sixty(self):
        for many, is_let in ((0, False), (1, True), (2, True), (60, True), (61, False), (62, False)):
            block = ending("on", (7,), rows=(0,) * many)
            host = (40, 3, (("out", 0),), (("on", 7, OLD_BOXES, OLD_MARKS, many),))
            self.assertIs(host_lets_by(block, host), is_let)
            block = ending("halt", (), rows=(0,) * many)
            host = (40, 3, (("out", 0),), (("halt", 39 + many, OLD_BOXES, OLD_MARKS, many - 1),))
            self.assertIs(host_lets_by(block, host), is_let)
        self.refuses_block((1,), (), ROWS[:-1], ROWS + (0,), "", 0)


class ManyWays(Looking):
    """Points 3 and 21: what is let by does what the middle block does."""

    def both(self, seed):
        """A middle block and a host block that do the same."""
        if seed % 3 == 0:
            block = FreeBlock(seed, 30, 7).make(seed % 50)
        elif seed % 3 == 1:
            block = Maker(seed % 50, close_rows(seed, seed % 8), seed).make()[0]
        else:
            block = lead(65530 + seed % 6, some_rows(seed, 1 + seed % 8))
        return (block, deal(block, 3 + seed % 4))

    def test_one_part_changed(self):
        let = 0
        for seed in range(250):
            whole = self.both(seed)
            paths = paths_of(whole)
            for number in mixed(seed + 700, 16):
                other = changed(whole, paths[number % len(paths)], lambda part: self.another(part, number))
                if other == whole or not isinstance(other, tuple) or len(other) != 2:
                    continue
                with self.subTest(seed=seed, number=number):
                    told = host_lets_by(*other)
                    self.assertIn(told, (True, False))
                    if told:
                        self.does_the_same(*other, range(seed, seed + 8))
                        let += 1
        self.assertGreater(let, 20)

    def test_two_host_rows_exchanged(self):
        let = 0
        for seed in range(200):
            block, host = self.both(seed)
            for number in mixed(seed + 900, 6):
                rows = list(host[2])
                k = number % len(rows)
                other = number // 64 % len(rows)
                rows[k], rows[other] = rows[other], rows[k]
                changed_host = host[:2] + (tuple(rows),) + host[3:]
                if changed_host != host and host_lets_by(block, changed_host):
                    let += 1
                    self.does_the_same(block, changed_host, range(seed, seed + 8))
        self.assertGreater(let, 10)

    def another(self, part, number):
        """Another part in the place of this one."""
        if isinstance(part, int):
            return (part + 1, part - 1, number % 20, number % 8, 0, "")[number // 64 % 6]
        if isinstance(part, str):
            words = ("add", "sub", "mul", "get", "set", "hand", "shelf", "old", "num", "on", "over", "under", "keep",
                     "load", "closed", "")
            return words[number // 64 % len(words)]
        k = number // 64 % (len(part) + 1)
        return (part[:k] + part[k + 1:], part[:k] + part[k:k + 1] * 2 + part[k + 1:], part[::-1], ())[number % 4]

    def test_what_is_handed_in_stays(self):
        before = (BLOCK, HOST)
        first = host_lets_by(BLOCK, HOST)
        self.refuses(BLOCK, changed(HOST, (1,), 3))
        self.assertIs(host_lets_by(BLOCK, HOST), first)
        self.assertEqual((BLOCK, HOST), before)


if __name__ == "__main__":
    unittest.main()
