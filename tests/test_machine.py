"""Points 2, 18 and 19: asitruns.host.machine."""

import copy
import unittest

from asitruns.host.machine import do_host
from helper import Same, altered

MARKS = (True, False, True)
SAVED = (77, (False, True, False))
CELLS = tuple(range(1000, 1032))
STATE = (4711, (0, 8, 24, 3, 4, 65535, 6, 7), MARKS, SAVED, (7, 7, 7, 7), CELLS)

# Exits of sources that leave boxes and marks as they were, and of sources that show the hands.
OLD_BOXES = tuple([("old", k) for k in range(8)])
OLD_MARKS = tuple([("old", k) for k in range(3)])
HAND_BOXES = tuple([("hand", k) for k in range(8)])
HAND_MARKS = tuple([("hand", k) for k in range(3)])

SHOWN = ("on", 5, HAND_BOXES, OLD_MARKS, 3)
CLOSED = ("closed", 50, OLD_BOXES, OLD_MARKS, 2)
SHUT = ("shut", 51, OLD_BOXES, OLD_MARKS, 1)
EXITS = (SHOWN, CLOSED, SHUT)

# Numbers 3, 9 and 65535 and the truth True in hands 1, 2, 3 and 4.
AHEAD = (("num", 1, 3), ("num", 2, 9), ("num", 3, 65535), ("yes", 4))
AHEAD_HANDS = (0, 3, 9, 65535, True, 0, 0, 0)


def host_of(*rows, exits=EXITS, many=16):
    return (100, many, rows, exits)


class Hosts(Same):

    def shows(self, rows, hands, state=STATE, given=(), watched=(), told=(), heard=0, **parts):
        """Behind these rows an out is done, by which the hands 0 to 7 are shown as boxes."""
        host = host_of(*rows, ("out", 0))
        asked = ("on", altered(state, place=5, boxes=hands, **parts), told, 3, heard, len(rows) + 1)
        with self.subTest(rows=rows, given=given):
            self.same(do_host(host, state, list(given), watched), asked)

    def leaves(self, rows, way, state=STATE, given=(), watched=(), told=(), heard=0, behind=(("out", 0),), **parts):
        """The last of these rows leaves at a way whose boxes and marks are the old ones."""
        host = host_of(*rows, *behind)
        asked = (way[0], altered(state, place=way[1], **parts), told, way[4], heard, len(rows))
        with self.subTest(rows=rows, state=state[:5]):
            self.same(do_host(host, state, list(given), watched), asked)

    def puts(self, row, hand, worth):
        """The row puts this into the hand, and nothing into others."""
        hands = AHEAD_HANDS[:hand] + (worth,) + AHEAD_HANDS[hand + 1:]
        self.shows(AHEAD + (row,), hands)


class Rows(Hosts):
    """Point 18: each word by itself."""

    def test_hands_hold_nought_at_first(self):
        self.shows((), (0,) * 8)
        self.shows((("add", 1, 2, 15),), (0,) * 8)
        self.shows((("nought", 1, 15),), (0, True, 0, 0, 0, 0, 0, 0))

    def test_shelf_places_hold_nought_at_first(self):
        for s in (0, 1, 500, 999):
            self.shows((("num", 1, 3), ("load", 1, s)), (0,) * 8)

    def test_num_yes_no(self):
        for number in (0, 1, 65535):
            self.puts(("num", 6, number), 6, number)
            self.puts(("num", 1, number), 1, number)
        self.puts(("yes", 6), 6, True)
        self.puts(("no", 6), 6, False)
        self.puts(("no", 4), 4, False)

    def test_box_and_mark(self):
        for k in range(8):
            self.puts(("box", 6, k), 6, STATE[1][k])
        for k in range(3):
            self.puts(("mark", 6, k), 6, MARKS[k])

    def test_box_and_mark_are_those_at_the_begin(self):
        # What an item brings is put nowhere but into its hand.
        rows = (("num", 1, 9), ("hear", 2), ("get", 3, 1, 0, 1), ("box", 4, 0), ("mark", 5, 0))
        self.shows(rows, (0, 9, 70, 1009, 0, True, 0, 0), given=(70, 80), heard=1)

    def test_words_of_two_numbers(self):
        # Hands 1, 2 and 3 hold 3, 9 and 65535; hand 0 holds 0.
        cases = (
            ("add", 1, 2, 12), ("add", 1, 3, 2), ("add", 3, 3, 65534), ("add", 0, 2, 9),
            ("sub", 2, 1, 6), ("sub", 1, 2, 65530), ("sub", 2, 2, 0), ("sub", 0, 3, 1),
            ("mul", 1, 2, 27), ("mul", 3, 2, 65527), ("mul", 3, 3, 1), ("mul", 2, 0, 0),
            ("over", 1, 2, False), ("over", 1, 3, True), ("over", 3, 0, False), ("over", 3, 3, True),
            ("under", 1, 2, True), ("under", 2, 1, False), ("under", 2, 2, False), ("under", 0, 1, True),
            ("wide", 1, 2, False), ("wide", 2, 3, True), ("wide", 3, 0, False),
            ("rest", 2, 1, False), ("rest", 1, 2, True), ("rest", 3, 2, True), ("rest", 1, 0, False),
        )
        for word, x, y, worth in cases:
            for d in (6, x, y):
                self.puts((word, d, x, y), d, worth)

    def test_words_of_one_number(self):
        for word, x, worth in (("nought", 0, True), ("nought", 1, False), ("nought", 3, False), ("high", 0, False),
                               ("high", 2, False), ("high", 3, True)):
            for d in (6, x):
                self.puts((word, d, x), d, worth)
        for number, worth in ((32767, False), (32768, True)):
            self.shows((("num", 1, number), ("high", 2, 1)), (0, number, worth, 0, 0, 0, 0, 0))

    def test_the_plain_sum_and_product_at_their_edge(self):
        for x, y, worth in ((65535, 0, False), (65535, 1, True), (32768, 32768, True), (32768, 32767, False)):
            self.shows((("num", 0, x), ("num", 1, y), ("over", 2, 0, 1)), (x, y, worth, 0, 0, 0, 0, 0))
        for x, y, worth in ((256, 256, True), (255, 257, False), (32768, 2, True), (32767, 2, False)):
            self.shows((("num", 0, x), ("num", 1, y), ("wide", 2, 0, 1)), (x, y, worth, 0, 0, 0, 0, 0))

    def test_keep_and_load(self):
        for s in (0, 1, 500, 999):
            rows = AHEAD + (("keep", s, 2), ("num", 2, 50), ("load", 6, s), ("load", 7, (s + 1) % 1000))
            self.shows(rows, (0, 3, 50, 65535, True, 0, 9, 0))
        # A truth, and another thing behind it at the same place.
        self.shows(AHEAD + (("keep", 9, 4), ("load", 5, 9), ("keep", 9, 1), ("load", 6, 9)),
                   (0, 3, 9, 65535, True, True, 3, 0))

    def test_shelf_and_hands_are_not_one(self):
        self.shows((("num", 1, 3), ("keep", 2, 1)), (0, 3, 0, 0, 0, 0, 0, 0))

    def test_get(self):
        # Hand 1 holds 3, hand 2 holds 9, hand 3 holds 65535.
        for x, y, cell in ((1, 2, 1012), (2, 1, 1012), (0, 0, 1000), (2, 2, 1018)):
            for d in (6, x, y):
                self.puts(("get", d, x, y, 1), d, cell)
        self.shows((("num", 1, 24), ("num", 2, 7), ("get", 3, 1, 2, 1)), (0, 24, 7, 1031, 0, 0, 0, 0))
        for ahead in ((("num", 1, 24), ("num", 2, 8)), (("num", 1, 65535), ("num", 2, 1)),
                      (("num", 1, 32), ("num", 2, 0)), (("num", 1, 65535), ("num", 2, 9))):
            self.leaves(ahead + (("get", 3, 1, 2, 1),), CLOSED)

    def test_get_with_each_right(self):
        for rights in range(8):
            state = altered(STATE, rights=(6, rights, 6, 6))
            for address in (8, 15):
                rows = (("num", 1, address), ("get", 2, 1, 0, 1))
                if rights % 2:
                    self.shows(rows, (0, address, 1000 + address, 0, 0, 0, 0, 0), state)
                else:
                    self.leaves(rows, CLOSED, state)

    def test_set(self):
        for x, y, z, address in ((1, 2, 3, 12), (2, 1, 1, 12), (0, 0, 2, 0), (2, 2, 2, 18)):
            cells = CELLS[:address] + (AHEAD_HANDS[z],) + CELLS[address + 1:]
            self.shows(AHEAD + (("set", x, y, z, 1, 2),), AHEAD_HANDS, cells=cells)
        for ahead in ((("num", 1, 24), ("num", 2, 8)), (("num", 1, 65535), ("num", 2, 1))):
            self.leaves(ahead + (("set", 1, 2, 3, 1, 2),), CLOSED)
            self.leaves(ahead + (("set", 1, 2, 3, 1, 2),), CLOSED, watched=(0, 1, 2, 3, 4))
        self.shows((("num", 1, 31), ("set", 1, 0, 1, 1, 2)), (0, 31, 0, 0, 0, 0, 0, 0), cells=CELLS[:31] + (31,))

    def test_set_with_each_right(self):
        for rights in range(8):
            state = altered(STATE, rights=(5, rights, 5, 5))
            for address in (8, 15):
                rows = (("num", 1, address), ("set", 1, 0, 1, 1, 2))
                if rights // 2 % 2:
                    cells = CELLS[:address] + (address,) + CELLS[address + 1:]
                    self.shows(rows, (0, address, 0, 0, 0, 0, 0, 0), state, cells=cells)
                else:
                    self.leaves(rows, CLOSED, state)
                    self.leaves(rows, CLOSED, state, watched=(1,))

    def test_set_into_a_watched_page(self):
        for address, watched, is_shut in ((8, (1,), True), (15, (1,), True), (7, (1,), False), (16, (1,), False),
                                          (16, (0, 2, 3), True), (12, (0, 2, 3), False), (31, (3,), True),
                                          (0, (), False)):
            rows = (("num", 1, address), ("num", 2, 9), ("set", 0, 1, 2, 1, 2))
            cells = CELLS[:address] + (9,) + CELLS[address + 1:]
            if is_shut:
                self.leaves(rows, SHUT, watched=watched, cells=cells)
            else:
                self.shows(rows, (0, address, 9, 0, 0, 0, 0, 0), watched=watched, cells=cells)

    def test_set_of_a_cells_own_number_into_a_watched_page(self):
        self.leaves((("num", 1, 9), ("get", 2, 1, 0, 1), ("set", 0, 1, 2, 1, 2)), SHUT, watched=(1,))

    def test_div(self):
        for x, y, worth in ((2, 1, 3), (1, 2, 0), (3, 2, 7281), (0, 1, 0), (2, 2, 1)):
            for d in (6, x, y):
                self.puts(("div", d, x, y, 1), d, worth)
        for d in (6, 1, 0):
            self.leaves(AHEAD + (("div", d, 1, 0, 1),), CLOSED)
        # By 1 it does not fault.
        self.shows((("num", 1, 1), ("div", 2, 1, 1, 1)), (0, 1, 1, 0, 0, 0, 0, 0))

    def test_tell(self):
        self.shows(AHEAD + (("tell", 1), ("tell", 3), ("tell", 0), ("tell", 1)), AHEAD_HANDS, told=(3, 65535, 0, 3))

    def test_hear(self):
        rows = (("hear", 1), ("hear", 0), ("hear", 2))
        self.shows(rows, (70, 60, 80, 0, 0, 0, 0, 0), given=(60, 70, 80, 90), heard=3)
        self.shows(rows, (70, 60, 80, 0, 0, 0, 0, 0), given=(60, 70, 80), heard=3)
        self.shows((("num", 2, 5),) + rows, (70, 60, 0, 0, 0, 0, 0, 0), given=(60, 70), heard=2)
        self.shows((("num", 1, 5),) + rows, (0,) * 8)

    def test_right(self):
        for page, x in ((0, 0), (3, 1)):
            rows = AHEAD + (("num", 5, 5), ("right", x, 5, 1))
            self.shows(rows, AHEAD_HANDS[:5] + (5, 0, 0), rights=STATE[4][:page] + (5,) + STATE[4][page + 1:])
        for page in (4, 5, 65535):
            self.leaves((("num", 1, page), ("right", 1, 0, 1)), CLOSED)
        self.leaves((("right", 0, 0, 1),), CLOSED, altered(STATE, rights=(), cells=()))

    def test_when(self):
        for truth, way in (("yes", CLOSED), ("no", SHUT)):
            self.leaves(((truth, 7), ("when", 7, 1, 2)), way, behind=())
        for k, way in ((0, SHUT), (1, CLOSED), (2, SHUT)):
            self.leaves((("yes", 3), ("mark", 3, k), ("when", 3, 2, 1)), way, behind=())

    def test_out(self):
        for number, way in ((1, CLOSED), (2, SHUT)):
            self.leaves((("out", number),), way, behind=())
            self.leaves((("num", 1, 3), ("tell", 1), ("out", number)), way, behind=(), told=(3,))

    def test_back(self):
        self.leaves((("back", 1, 2),), CLOSED, altered(STATE, saved=None), behind=())
        host = host_of(("back", 1, 2))
        self.same(do_host(host, STATE, [], ()), ("shut", (77, STATE[1], SAVED[1], None) + STATE[4:], (), 1, 0, 1))

    def test_the_first_hand_and_the_last(self):
        for many in (3, 16):
            last = many - 1
            way = ("on", ("hand", last), (("hand", last),) * 8, OLD_MARKS, 0)
            host = host_of(("num", 0, 4), ("add", last, 0, 0), ("out", 0), exits=(way,), many=many)
            self.same(do_host(host, STATE, [], ()), ("on", altered(STATE, place=8, boxes=(8,) * 8), (), 0, 0, 3))

    def test_many_rows(self):
        rows = (("num", 0, 1),) + (("add", 0, 0, 0),) * 15
        self.shows(rows, (32768,) + (0,) * 7)
        self.shows(rows + (("add", 0, 0, 0),) * 500, (0,) * 8)


class Exits(Hosts):
    """Point 19."""

    def test_a_number_as_place(self):
        for place in (0, 5, 65535):
            host = host_of(("out", 0), exits=(("halt", place, OLD_BOXES, OLD_MARKS, 9),))
            self.same(do_host(host, STATE, [], ()), ("halt", altered(STATE, place=place), (), 9, 0, 1))

    def test_a_hand_as_place(self):
        for place in (0, 5, 65535):
            host = host_of(("num", 3, place), ("out", 0), exits=(("on", ("hand", 3), OLD_BOXES, OLD_MARKS, 9),))
            self.same(do_host(host, STATE, [], ()), ("on", altered(STATE, place=place), (), 9, 0, 2))
        host = host_of(("out", 0), exits=(("on", ("hand", 3), OLD_BOXES, OLD_MARKS, 9),))
        self.same(do_host(host, STATE, [], ()), ("on", altered(STATE, place=0), (), 9, 0, 1))

    def test_each_source(self):
        boxes = (("hand", 1), ("shelf", 999), ("old", 5), ("old", 0), ("shelf", 0), ("hand", 15), ("old", 7),
                 ("shelf", 8))
        marks = (("shelf", 7), ("hand", 4), ("old", 0))
        rows = AHEAD + (("keep", 999, 2), ("keep", 0, 3), ("no", 15), ("keep", 7, 15), ("num", 15, 6), ("out", 0))
        host = host_of(*rows, exits=(("on", 5, boxes, marks, 2),))
        asked = altered(STATE, place=5, boxes=(3, 9, 65535, 0, 65535, 6, 7, 0), marks=(False, True, True))
        self.same(do_host(host, STATE, [], ()), ("on", asked, (), 2, 0, 10))

    def test_old_boxes_and_old_marks_in_another_order(self):
        way = ("on", 5, OLD_BOXES[::-1], OLD_MARKS[1:] + OLD_MARKS[:1], 2)
        asked = altered(STATE, place=5, boxes=STATE[1][::-1], marks=(False, True, True))
        self.same(do_host(host_of(("out", 0), exits=(way,)), STATE, [], ()), ("on", asked, (), 2, 0, 1))

    def test_how_is_the_word_that_stands_there(self):
        for how in ("on", "halt", "bad", "nought", "closed", "shut"):
            host = host_of(("out", 1), exits=(0, (how, 5, OLD_BOXES, OLD_MARKS, 60)))
            self.same(do_host(host, STATE, [], ()), (how, altered(STATE, place=5), (), 60, 0, 1))

    def test_left_by_a_back_for_what_was_saved(self):
        # Place and marks of this exit are not looked at, whatever they are.
        for place in (0, -5, 70000):
            for marks in (OLD_MARKS, HAND_MARKS, (), (("shelf", 5000),), "marks", 5):
                host = host_of(("num", 1, 9), ("set", 1, 1, 1, 0, 1), ("back", 0, 1),
                               exits=(CLOSED, ("on", place, HAND_BOXES, marks, 4)))
                asked = (77, (0, 9, 0, 0, 0, 0, 0, 0), SAVED[1], None, STATE[4], CELLS[:18] + (9,) + CELLS[19:])
                self.same(do_host(host, STATE, [], ()), ("on", asked, (), 4, 0, 3))

    def test_a_back_with_nothing_saved(self):
        state = altered(STATE, saved=None)
        host = host_of(("num", 1, 9), ("back", 0, 1), exits=(("bad", 9, HAND_BOXES, OLD_MARKS, 4), 0))
        self.same(do_host(host, state, [], ()), ("bad", altered(state, place=9, boxes=(0, 9) + (0,) * 6), (), 4, 0, 2))

    def test_only_a_back_takes_what_was_saved(self):
        for rows in ((("out", 0),), (("yes", 1), ("when", 1, 0, 0)), (("div", 1, 0, 0, 0), ("back", 0, 0)),
                     (("set", 0, 0, 0, 0, 0), ("back", 0, 0))):
            host = host_of(*rows, exits=(("on", 9, OLD_BOXES, OLD_MARKS, 4),))
            told = do_host(host, STATE, [], (0,))
            self.assertEqual(told[1][:4], (9, STATE[1], MARKS, SAVED))

    def test_cells_and_rights_as_the_rows_ahead_left_them(self):
        rows = (("num", 1, 9), ("set", 1, 0, 1, 1, 1), ("num", 2, 6), ("right", 0, 2, 1), ("tell", 2), ("hear", 3),
                ("get", 4, 0, 0, 0), ("out", 1))
        way = ("closed", 9, HAND_BOXES, OLD_MARKS, 4)
        asked = (9, (0, 9, 6, 40, 0, 0, 0, 0), MARKS, SAVED, (6, 7, 7, 7), CELLS[:9] + (9,) + CELLS[10:])
        self.same(do_host(host_of(*rows, exits=(way, CLOSED)), STATE, [40, 50], ()), ("closed", asked, (6,), 4, 1, 7))

    def test_what_is_put_where_a_row_faults_stays_as_it_was(self):
        rows = (("num", 1, 9), ("div", 1, 1, 0, 0), ("out", 0))
        way = ("nought", 9, HAND_BOXES, OLD_MARKS, 4)
        asked = altered(STATE, place=9, boxes=(0, 9, 0, 0, 0, 0, 0, 0))
        self.same(do_host(host_of(*rows, exits=(way,)), STATE, [], ()), ("nought", asked, (), 4, 0, 2))

    def test_host_rows_done(self):
        rows = (("num", 1, 40), ("num", 2, 3), ("keep", 3, 2), ("tell", 2), ("get", 2, 1, 0, 1), ("out", 0))
        self.assertEqual(do_host(host_of(*rows), STATE, [], ())[5], 5)
        self.assertEqual(do_host(host_of(*rows), altered(STATE, cells=CELLS * 2, rights=(7,) * 8), [], ())[5], 6)
        self.assertEqual(do_host(host_of(("div", 0, 0, 0, 1), ("out", 0)), STATE, [], ())[5], 1)

    def test_the_states_own_place_is_not_looked_at(self):
        rows = AHEAD + (("get", 5, 1, 2, 1), ("out", 0))
        first = do_host(host_of(*rows), STATE, [], ())
        for place in (0, 3, 100, 65535):
            self.same(do_host(host_of(*rows), altered(STATE, place=place), [], ()), first)

    def test_what_is_handed_in_stays(self):
        rows = AHEAD + (("set", 1, 2, 3, 1, 2), ("hear", 5), ("hear", 6), ("right", 0, 0, 1), ("keep", 3, 3))
        rows += (("out", 0),)
        handed = [host_of(*rows), STATE, [4, 5, 6], (3,)]
        before = copy.deepcopy(handed)
        first = do_host(*handed)
        self.assertEqual(handed, before)
        self.same(do_host(*handed), first)
        handed[2].append(7)
        hash(first)

    def test_nothing_is_kept_from_one_time_to_the_next(self):
        do_host(host_of(("num", 1, 9), ("keep", 4, 1), ("out", 0)), STATE, [], ())
        self.shows((("load", 2, 4),), (0,) * 8)


if __name__ == "__main__":
    unittest.main()
