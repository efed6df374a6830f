"""Points 2, 3 and 14: asitruns.middle.done."""

import copy
import unittest

from asitruns.guest.runs import run
from asitruns.middle.blocks import block_at
from asitruns.middle.done import do_block
from asitruns.middle.lead import lead
from helper import BOXES, FIRST, Same, altered, mixed, row_by_row, rows_of, some_rows, some_state, state_of

MARKS = (True, False, True)
SAVED = (77, (False, True, False))

# A state of four pages that holds no row of the blocks done in it, at a place that is not looked at.
CELLS = tuple(range(1000, 1032))
STATE = (4711, (0, 8, 24, 3, 4, 65535, 6, 7), MARKS, SAVED, (7, 7, 7, 7), CELLS)

# Rows ahead that change boxes, marks and cells: box 6 becomes 9, cell 25 becomes 9, 9 is told, marks of 3 less 4.
AHEAD = ("put 6 0 9", "set 6 2 1", "tell 6 0 0", "sub 7 3 4")
AHEAD_BOXES = (0, 8, 24, 3, 4, 65535, 9, 65535)
AHEAD_MARKS = (False, True, True)
AHEAD_CELLS = CELLS[:25] + (9,) + CELLS[26:]
# Rows behind that would be seen in each part of what is told.
BEHIND = ("put 0 0 1", "tell 0 0 0", "add 0 0 0", "set 0 2 2", "halt 0 0 0")


class Done(Same):
    """What the tests of point 14 ask again and again."""

    def does(self, rows, state, asked, place=100, given=(), watched=()):
        """The plain block of these rows tells this, and the rows one by one tell it too."""
        numbers = rows_of(*rows)
        with self.subTest(rows=rows, place=place, given=given, watched=watched, state=state[:5]):
            self.same(do_block(lead(place, numbers), state, list(given), watched), asked)
            self.same(row_by_row(place, numbers, state, list(given), watched), asked)

    def faults(self, row, how, state=STATE, with_rows_behind=True):
        """The row faults: alone, as first, in the middle and as the last one."""
        for behind in ((), BEHIND) if with_rows_behind else ((),):
            self.does((row,) + behind, state, (how, altered(state, place=100), (), 0, 0))
            ahead = altered(state, place=104, boxes=AHEAD_BOXES, marks=AHEAD_MARKS,
                            cells=state[5][:25] + (9,) + state[5][26:])
            self.does(AHEAD + (row,) + behind, state, (how, ahead, (9,), 4, 0))

    def goes_on(self, row, state=STATE, **parts):
        """The row is done, alone, and what is told is the state with these parts."""
        self.does((row,), state, ("on", altered(state, place=101, **parts), (), 1, 0))


class Faults(Done):
    """Point 14: where an item faults."""

    def test_the_rows_ahead_do_what_the_tests_take_them_for(self):
        self.does(AHEAD, STATE, ("on", (104, AHEAD_BOXES, AHEAD_MARKS, SAVED, (7, 7, 7, 7), AHEAD_CELLS), (9,), 4, 0))

    def test_get_behind_the_last_cell(self):
        self.faults("get 1 2 8", "closed")
        self.faults("get 1 2 63", "closed")
        self.faults("get 1 5 0", "closed")

    def test_get_at_a_sum_above_65535(self):
        # By its rest the address would be cell 0, 1, 62.
        for c in (1, 2, 63):
            self.faults(f"get 1 5 {c}", "closed")

    def test_set_behind_the_last_cell(self):
        self.faults("set 1 2 8", "closed")
        self.faults("set 1 2 63", "closed")
        self.faults("set 1 5 0", "closed")

    def test_set_at_a_sum_above_65535(self):
        for c in (1, 2, 63):
            self.faults(f"set 1 5 {c}", "closed")

    def test_get_with_each_right(self):
        # Box 1 holds 8: the first and the last cell of page 1.
        for rights in range(8):
            state = altered(STATE, rights=(6, rights, 6, 7))
            for c in (0, 7):
                if rights % 2 == 0:
                    self.faults(f"get 4 1 {c}", "closed", state)
                else:
                    self.goes_on(f"get 4 1 {c}", state, boxes=STATE[1][:4] + (1008 + c,) + STATE[1][5:])

    def test_set_with_each_right(self):
        for rights in range(8):
            state = altered(STATE, rights=(5, rights, 5, 7))
            for c in (0, 7):
                if rights // 2 % 2 == 0:
                    self.faults(f"set 4 1 {c}", "closed", state)
                else:
                    self.goes_on(f"set 4 1 {c}", state, cells=CELLS[:8 + c] + (4,) + CELLS[9 + c:])

    def test_get_and_set_of_the_first_and_the_last_cell(self):
        for address, row in ((0, "0 0"), (7, "0 7"), (31, "2 7")):
            self.goes_on("get 4 " + row, boxes=STATE[1][:4] + (1000 + address,) + STATE[1][5:])
            self.goes_on("set 3 " + row, cells=CELLS[:address] + (3,) + CELLS[address + 1:])

    def test_get_and_set_where_there_are_no_cells(self):
        state = altered(STATE, rights=(), cells=())
        for word in ("get", "set"):
            self.does((word + " 1 0 0",), state, ("closed", altered(state, place=100), (), 0, 0))

    def test_div_by_nought(self):
        self.faults("div 1 2 0", "nought")
        self.faults("div 0 0 8", "nought")

    def test_div_by_others(self):
        self.goes_on("div 1 2 1", boxes=(0, 3) + STATE[1][2:], marks=(False, False, False))
        self.goes_on("div 1 3 1", boxes=(0, 0) + STATE[1][2:], marks=(True, False, True))
        self.goes_on("div 1 5 3", boxes=(0, 21845) + STATE[1][2:], marks=(False, False, False))

    def test_right_of_the_last_page_and_of_the_one_behind(self):
        self.goes_on("right 3 0 13", rights=(7, 7, 7, 5))
        self.goes_on("right 0 0 8", rights=(0, 7, 7, 7))
        self.faults("right 4 0 5", "closed", with_rows_behind=False)
        self.faults("right 5 0 5", "closed", with_rows_behind=False)

    def test_saved_stays_none(self):
        self.faults("div 1 2 0", "nought", altered(STATE, saved=None))

    def test_what_an_item_brought_stands_in_what_is_told_of_a_later_fault(self):
        self.does(("get 0 1 0", "hear 1 0 0", "div 2 0 4", "add 3 0 1", "get 4 0 0", "halt 0 0 0"), STATE,
                  ("closed", altered(STATE, place=104, boxes=(1008, 50, 252, 1058) + STATE[1][4:],
                                     marks=(False, False, False)), (), 4, 1), given=(50, 60))

    def test_rights_and_cells_as_the_items_ahead_have_left_them(self):
        # Nothing comes behind a right in a plain block; in other middle blocks it may.
        nodes = FIRST + (("num", 0), ("num", 1), ("num", 4), ("num", 6))
        things = (("set", 0, (11, 11, 12), BOXES, (8, 9, 10)), ("right", 1, (12, 14), BOXES, (8, 9, 10)),
                  ("set", 2, (1, 12, 13), BOXES, (8, 9, 10)), ("get", 3, (1, 11), (12,) + BOXES[1:], (9, 9, 8)))
        block = (60, (0, 0, 0, 0, 0), nodes, things, ("halt", (), BOXES, (8, 9, 10)))
        self.same(do_block(block, STATE, [], ()),
                  ("closed", (63, (1,) + STATE[1][1:], (False, False, True), SAVED, (7, 6, 7, 7),
                              (1,) + CELLS[1:9] + (4,) + CELLS[10:]), (), 3, 0))
        # The same where the last item does not fault.
        things = things[:3] + (("get", 3, (2, 11), BOXES, (8, 9, 10)),)
        self.same(do_block(block[:3] + (things,) + block[4:], STATE, [], ()),
                  ("halt", altered(STATE, place=64, rights=(7, 6, 7, 7), cells=(1,) + CELLS[1:9] + (4,) + CELLS[10:]),
                   (), 4, 0))


class Shut(Done):
    """Point 14: a set into a watched page."""

    def test_in_the_middle_and_as_the_last_row(self):
        shut = altered(STATE, place=101, cells=CELLS[:9] + (3,) + CELLS[10:])
        later = (105, AHEAD_BOXES, AHEAD_MARKS, SAVED, (7, 7, 7, 7), AHEAD_CELLS[:9] + (3,) + AHEAD_CELLS[10:])
        for behind in ((), BEHIND, ("halt 0 0 0",), ("jump 0 0 9",), ("bad 0 0 0",), ("go 0 0 0",), ("back 0 0 0",)):
            self.does(("set 3 1 1",) + behind, STATE, ("shut", shut, (), 1, 0), watched=(1,))
            self.does(AHEAD + ("set 3 1 1",) + behind, STATE, ("shut", later, (9,), 5, 0), watched=(1,))

    def test_the_first_and_the_last_cell_of_the_page(self):
        for c in range(24):
            how = "shut" if 8 <= c < 16 else "on"
            self.does((f"set 3 0 {c}",), STATE,
                      (how, altered(STATE, place=101, cells=CELLS[:c] + (3,) + CELLS[c + 1:]), (), 1, 0),
                      watched=(1,))

    def test_the_first_set_of_several(self):
        cells = CELLS[:8] + (3,) + CELLS[9:16] + (3,) + CELLS[17:]
        rows = ("set 3 1 0", "set 3 1 8", "set 3 2 0", "halt 0 0 0")
        self.does(rows, STATE, ("shut", altered(STATE, place=102, cells=cells), (), 2, 0), watched=(0, 2, 3))
        self.does(rows, STATE, ("shut", altered(STATE, place=102, cells=cells), (), 2, 0), watched=(2,))
        self.does(rows, STATE, ("halt", altered(STATE, place=103, cells=cells[:24] + (3,) + cells[25:]), (), 3, 0))
        self.does(rows, STATE, ("halt", altered(STATE, place=103, cells=cells[:24] + (3,) + cells[25:]), (), 3, 0),
                  watched=(0, 4, 100))

    def test_also_where_the_cell_had_that_number(self):
        state = altered(STATE, cells=CELLS[:8] + (3,) + CELLS[9:])
        self.does(("set 3 1 0", "halt 0 0 0"), state, ("shut", altered(state, place=101), (), 1, 0), watched=(1,))

    def test_a_set_that_faults_is_no_write(self):
        state = altered(STATE, rights=(7, 5, 7, 7))
        self.does(("set 3 1 0",), state, ("closed", altered(state, place=100), (), 0, 0), watched=(1,))
        self.does(("set 3 2 8",), STATE, ("closed", altered(STATE, place=100), (), 0, 0), watched=(4,))
        self.does(("set 3 5 9",), STATE, ("closed", altered(STATE, place=100), (), 0, 0), watched=(0, 1, 8193))

    def test_only_a_set_shuts(self):
        self.does(("get 3 1 0", "right 0 0 3"), STATE,
                  ("on", altered(STATE, place=102, boxes=STATE[1][:3] + (1008,) + STATE[1][4:], rights=(3, 7, 7, 7)),
                   (), 2, 0), watched=(0, 1))

    def test_by_its_rest_and_what_was_heard_and_told_ahead(self):
        rows = ("hear 3 0 0", "tell 3 0 0", "set 3 1 0", "hear 4 0 0", "tell 4 0 0")
        boxes = STATE[1][:3] + (500,) + STATE[1][4:]
        cells = CELLS[:8] + (500,) + CELLS[9:]
        for place, behind in ((0, 3), (65532, 65535), (65533, 0), (65535, 2)):
            self.does(rows, STATE, ("shut", altered(STATE, place=behind, boxes=boxes, cells=cells), (500,), 3, 1),
                      place=place, given=(500, 600), watched=(1,))

    def test_saved_stays(self):
        state = altered(STATE, saved=None)
        self.does(("set 3 1 0", "back 0 0 0"), state,
                  ("shut", altered(state, place=101, cells=CELLS[:8] + (3,) + CELLS[9:]), (), 1, 0), watched=(1,))


class Itself(Done):
    """Point 14: by the rows as it was led of, whatever becomes of the cells."""

    def test_a_row_that_is_written_over_is_done_as_it_was_led_of(self):
        # The second row writes a number over the third one; by the plain run that one would be halt.
        state = state_of("put 1 0 7", "set 0 0 2", "put 2 0 5", "tell 2 0 0", "halt 0 0 0")
        rows = block_at(state, 0)
        cells = state[5][:2] + (0,) + state[5][3:]
        self.assertEqual(run(state, [], [], 0)[:1] + run(state, [], [], 0)[2:4], ("halt", (), 2))
        self.same(do_block(lead(0, rows), state, [], ()),
                  ("halt", altered(state, place=4, boxes=(0, 7, 5, 0, 0, 0, 0, 0), cells=cells), (5,), 4, 0))
        # A page that is watched is left behind the row that writes.
        self.same(do_block(lead(0, rows), state, [], (0,)),
                  ("shut", altered(state, place=2, boxes=(0, 7, 0, 0, 0, 0, 0, 0), cells=cells), (), 2, 0))

    def test_cells_and_rights_at_its_place_are_not_looked_at(self):
        rows = ("put 0 0 5", "tell 0 0 0", "halt 0 0 0")
        for state in (STATE, altered(STATE, rights=(0, 0, 0, 0)), altered(STATE, cells=(), rights=())):
            for place in (0, 7, 31, 32, 65533):
                self.does(rows, state, ("halt", altered(state, place=place + 2, boxes=(5,) + STATE[1][1:]), (5,), 2, 0),
                          place=place)

    def test_a_cell_that_is_written_and_read_again(self):
        self.does(("set 3 1 0", "get 4 1 0", "set 2 1 0", "get 6 1 0", "halt 0 0 0"), STATE,
                  ("halt", altered(STATE, place=104, boxes=(0, 8, 24, 3, 3, 65535, 24, 7),
                                   cells=CELLS[:8] + (24,) + CELLS[9:]), (), 4, 0))


class Exits(Done):
    """Point 14: how a block is left by its exit."""

    def leaves(self, row, asked, state=STATE, place=100):
        """The row alone tells this: how, place, and rows done."""
        how, to, rows = asked
        self.does((row,), state, (how, altered(state, place=to), (), rows, 0), place=place)

    def test_halt_and_bad_leave_their_row_undone(self):
        for word in ("halt", "bad"):
            for place in (0, 5, 65535):
                self.leaves(word + " 7 7 63", (word, place, 0), place=place)
            self.does(AHEAD + (word + " 0 0 0",), STATE,
                      (word, (104, AHEAD_BOXES, AHEAD_MARKS, SAVED, (7, 7, 7, 7), AHEAD_CELLS), (9,), 4, 0))
            self.does(AHEAD + (word + " 0 0 0",), STATE,
                      (word, (2, AHEAD_BOXES, AHEAD_MARKS, SAVED, (7, 7, 7, 7), AHEAD_CELLS), (9,), 4, 0),
                      place=65534)

    def test_on(self):
        for place, to in ((0, 9), (5, 14), (65527, 0), (65535, 8)):
            self.leaves("jump 0 0 40", ("on", to, 1), place=place)
        self.leaves("jump 0 0 0", ("on", 65505, 1), place=0)
        self.leaves("when 6 0 40", ("on", 109, 1))
        self.leaves("when 7 0 40", ("on", 101, 1))
        self.leaves("when 7 0 40", ("on", 0, 1), place=65535)
        self.does(AHEAD, STATE, ("on", (1, AHEAD_BOXES, AHEAD_MARKS, SAVED, (7, 7, 7, 7), AHEAD_CELLS), (9,), 4, 0),
                  place=65533)

    def test_when_both_ways(self):
        for k in range(3):
            for truth in (True, False):
                marks = tuple([truth if k == mark else not truth for mark in range(3)])
                state = altered(STATE, marks=marks)
                self.leaves(f"when {2 * k} 0 40", ("on", 109 if truth else 101, 1), state)
                self.leaves(f"when {2 * k + 1} 0 40", ("on", 101 if truth else 109, 1), state)
                self.leaves(f"when {2 * k} 0 33", ("on", 1 if truth else 0, 1), state, 65535)

    def test_when_by_a_mark_that_the_block_made(self):
        for rows, to in ((("sub 0 3 4", "when 4 0 40"), 110), (("sub 0 4 3", "when 4 0 40"), 102),
                         (("sub 0 3 3", "when 0 0 40"), 110), (("sub 0 3 3", "when 1 0 40"), 102)):
            numbers = rows_of(*rows)
            told = do_block(lead(100, numbers), STATE, [], ())
            self.assertEqual((told[0], told[1][0], told[3]), ("on", to, 2))
            self.same(told, row_by_row(100, numbers, STATE, [], ()))

    def test_go(self):
        for a, to in ((0, 0), (1, 8), (5, 65535)):
            self.leaves(f"go {a} 7 63", ("on", to, 1))
        self.does(AHEAD + ("go 6 0 0",), STATE,
                  ("on", (9, AHEAD_BOXES, AHEAD_MARKS, SAVED, (7, 7, 7, 7), AHEAD_CELLS), (9,), 5, 0))

    def test_back_with_saved(self):
        self.does(("back 7 7 63",), STATE, ("on", altered(STATE, place=77, marks=SAVED[1], saved=None), (), 1, 0))
        self.does(AHEAD + ("back 0 0 0",), STATE,
                  ("on", (77, AHEAD_BOXES, SAVED[1], None, (7, 7, 7, 7), AHEAD_CELLS), (9,), 5, 0))

    def test_back_without_saved(self):
        state = altered(STATE, saved=None)
        self.leaves("back 7 7 63", ("bad", 100, 0), state)
        self.leaves("back 7 7 63", ("bad", 65535, 0), state, 65535)
        self.does(AHEAD + ("back 0 0 0",), state,
                  ("bad", (104, AHEAD_BOXES, AHEAD_MARKS, None, (7, 7, 7, 7), AHEAD_CELLS), (9,), 4, 0))

    def test_behind_a_right(self):
        self.does(("right 3 0 1",), STATE, ("on", altered(STATE, place=0, rights=(7, 7, 7, 1)), (), 1, 0), place=65535)

    def test_sixty_rows(self):
        self.does(("tell 3 0 0",) * 59 + ("halt 0 0 0",), STATE, ("halt", altered(STATE, place=159), (3,) * 59, 59, 0))
        self.does(("add 3 3 3",) * 60, STATE,
                  ("on", altered(STATE, place=160, boxes=STATE[1][:3] + (0,) + STATE[1][4:],
                                 marks=(True, False, False)), (), 60, 0))


class Places(Done):
    """Point 14: places told are by their rest, and the state's own is not looked at."""

    def test_faults_about_the_last_place(self):
        for place, to in ((65534, 65535), (65535, 0)):
            self.does(("put 0 0 0", "div 1 3 0", "halt 0 0 0"), STATE, ("nought", altered(STATE, place=to), (), 1, 0),
                      place=place)

    def test_the_state_s_own_place_is_not_looked_at(self):
        rows = rows_of("put 0 0 0", "get 6 0 0", "set 3 1 0", "div 1 3 1", "jump 0 0 40")
        for state in (STATE, altered(STATE, rights=(6, 7, 7, 7)), altered(STATE, boxes=(0,) * 8)):
            for watched in ((), (1,)):
                asked = do_block(lead(3, rows), state, [], watched)
                for place in (0, 3, 8, 127, 65535):
                    self.same(do_block(lead(3, rows), altered(state, place=place), [], watched), asked)


class Givens(Done):
    """Point 14: givens heard."""

    def hears(self, given, boxes, heard):
        self.does(("hear 0 0 0", "hear 1 0 0", "tell 0 0 0", "hear 2 0 0"), STATE,
                  ("on", altered(STATE, place=104, boxes=boxes + STATE[1][3:]), boxes[:1], 4, heard), given=given)

    def test_in_their_order_and_nought_behind_the_last_one(self):
        self.hears((), (0, 0, 0), 0)
        self.hears((50,), (50, 0, 0), 1)
        self.hears((50, 60), (50, 60, 0), 2)
        self.hears((50, 60, 65535), (50, 60, 65535), 3)
        self.hears((50, 60, 0, 80), (50, 60, 0), 3)

    def test_none_is_heard_behind_a_fault(self):
        self.does(("hear 3 0 0", "div 1 1 0", "hear 4 0 0"), STATE,
                  ("nought", altered(STATE, place=101, boxes=STATE[1][:3] + (50,) + STATE[1][4:]), (), 1, 1),
                  given=(50, 60))

    def test_told_in_their_order(self):
        self.does(("tell 3 0 0", "tell 5 0 0", "put 3 0 1", "tell 3 0 0", "halt 0 0 0"), STATE,
                  ("halt", altered(STATE, place=104, boxes=STATE[1][:3] + (1,) + STATE[1][4:]), (3, 65535, 1), 4, 0))


class OtherBlocks(Same):
    """Point 14: middle blocks that are not plain."""

    def test_a_table_in_another_order(self):
        # What the second item brings stands ahead of all that both items name.
        nodes = (("item", 1), ("item", 0), ("add", 0, 1), ("num", 1)) + FIRST + (("add", 3, 3),)
        boxes = tuple(range(4, 12))
        things = (("get", 0, (5, 3), boxes, (12, 13, 14)), ("get", 2, (5, 15), (1,) + boxes[1:], (12, 13, 14)))
        block = (10, (0, 0, 0, 0), nodes, things, ("go", (2,), (0, 1, 2) + boxes[3:], (13,) * 3))
        self.same(do_block(block, STATE, [], ()),
                  ("on", (2019, (1010, 1009, 2019) + STATE[1][3:], (False,) * 3, SAVED, (7, 7, 7, 7), CELLS), (), 4, 0))
        # Where the second one faults, boxes hold what the first one has brought.
        state = altered(STATE, boxes=(0, 30) + STATE[1][2:])
        self.same(do_block(block, state, [], ()),
                  ("closed", (12, (1031, 30) + STATE[1][2:], MARKS, SAVED, (7, 7, 7, 7), CELLS), (), 2, 0))

    def test_boxes_and_marks_of_the_begin_behind_items_that_bring(self):
        nodes = FIRST + (("item", 0), ("item", 1), ("item", 2))
        things = (("div", 0, (2, 1), BOXES, (8, 9, 10)), ("get", 1, (1, 0), BOXES, (8, 9, 10)),
                  ("hear", 2, (), (11, 12) + BOXES[2:], (8, 9, 10)), ("tell", 3, (0,), BOXES, (8, 9, 10)))
        block = (10, (0,) * 5, nodes, things, ("halt", (), BOXES, (8, 9, 10)))
        for marks in ((True, False, True), (True, True, False), (False, True, True)):
            state = altered(STATE, marks=marks)
            self.same(do_block(block, state, [5], ()), ("halt", altered(state, place=14), (0,), 4, 1))

    def test_rows_that_no_item_stands_for_count_as_done(self):
        block = (10, (0,) * 7, FIRST, (("tell", 5, (3,), BOXES, (8, 9, 10)),), ("on", (17,), BOXES, (8, 9, 10)))
        self.same(do_block(block, STATE, [], ()), ("on", altered(STATE, place=17), (3,), 7, 0))


class Kept(Same):
    """Point 2: what is handed in stays, and done again it tells the same."""

    def test_done_again(self):
        rows = rows_of("hear 3 0 0", "set 3 1 0", "get 4 1 0", "tell 4 0 0", "right 3 0 0")
        for numbers in ((), (1,), (2, 3), (40000,)):
            for watched in ((), (1,)):
                given = list(numbers)
                handed = (lead(0, rows), STATE, given, watched)
                before = copy.deepcopy(handed)
                told = do_block(*handed)
                self.assertEqual(handed, before)
                self.same(do_block(*handed), told)
                asked = copy.deepcopy(told)
                given[:] = [9, 9, 9]
                self.assertEqual(told, asked)


class LongWay(Same):
    """Points 3 and 14: blocks in no order, beside their rows one by one."""

    def test_blocks(self):
        ways = {}
        for seed in range(1500):
            numbers = mixed(seed + 5000, 8)
            rows = some_rows(seed, 1 + numbers[0] % 12)
            place = (numbers[1] % 32, 65536 - numbers[1] % 9)[numbers[2] % 2] % 65536
            given = numbers[:numbers[3] % 4]
            watched = tuple([page for page in range(4) if numbers[4] // 2 ** page % 4 == 0])
            state = some_state(seed)
            told = do_block(lead(place, rows), state, given, watched)
            with self.subTest(seed=seed):
                self.same(told, row_by_row(place, rows, state, given, watched))
            word = rows[min(told[3], len(rows) - 1)] // 4096
            ways[(told[0], word if told[0] != "shut" else 8)] = True
        # Each way to be left, with the word of the row at which it is so.
        asked = [("bad", 5), ("bad", 15), ("closed", 7), ("closed", 8), ("closed", 14), ("halt", 0), ("nought", 6),
                 ("shut", 8)] + [("on", word) for word in (1, 2, 3, 4, 6, 7, 8, 9, 10, 11, 12, 13, 14, 15)]
        self.assertEqual(sorted(ways), sorted(asked))


if __name__ == "__main__":
    unittest.main()
