"""Points 2, 6 and 7: asitruns.guest.steps."""

import unittest

from asitruns.guest.rows import number_of, read
from asitruns.guest.steps import begin, do_row
from helper import WORDS, Same, altered

BOXES = (11, 22, 33, 44, 55, 66, 77, 88)
MARKS = (True, False, True)
SAVED = (9, (False, True, False))


def state_with(row, place=3, boxes=BOXES, marks=MARKS, saved=SAVED, rights=(7, 7), cells=(500,) * 16):
    """A state whose place has the row, a text, among cells that are otherwise alike."""
    cells = cells[:place] + read(row) + cells[place + 1:]
    return (place, boxes, marks, saved, rights, cells)


def boxes_with(**boxes):
    """The usual boxes with some, called b0 to b7, exchanged."""
    return tuple([boxes.get(f"b{k}", BOXES[k]) for k in range(8)])


class Begin(Same):
    """Point 6."""

    def test_cells_and_rights(self):
        cells = tuple(range(100, 116))
        asked = (0, (0, 0, 0, 0, 0, 0, 0, 0), (False, False, False), None, (7, 5), cells)
        self.same(begin(cells, (7, 5)), asked)

    def test_no_cells(self):
        asked = (0, (0, 0, 0, 0, 0, 0, 0, 0), (False, False, False), None, (), ())
        self.same(begin((), ()), asked)

    def test_most_cells(self):
        state = begin((65535,) * 128, (0, 1, 2, 3, 4, 5, 6, 7) * 2)
        self.assertEqual(state[4], (0, 1, 2, 3, 4, 5, 6, 7) * 2)
        self.assertEqual(state[5], (65535,) * 128)


class Rows(Same):
    """What the tests of point 7 ask again and again."""

    def goes_on(self, state, told=(), heard=0, **parts):
        """The row is done; parts are those that change, and the place goes on by one unless it is told."""
        parts.setdefault("place", state[0] + 1)
        asked = ("on", altered(state, **parts), told)
        self.same(do_row(state, heard), asked)

    def faults(self, state, how, heard=0):
        self.same(do_row(state, heard), (how, state, ()))


class Closed(Rows):
    """Point 7: where no row may be run."""

    def test_a_place_that_is_no_cell(self):
        state = state_with("put 0 0 1")
        for place in (16, 17, 24, 128, 65535):
            with self.subTest(place=place):
                self.faults(altered(state, place=place), "closed")

    def test_numbers_somewhat_below_nought_are_no_cell_and_no_page(self):
        self.faults(altered(state_with("put 0 0 1", place=15), place=-1), "closed")
        self.faults(state_with("get 6 4 0", boxes=boxes_with(b4=-1)), "closed")
        self.faults(state_with("right 5 1 7", boxes=boxes_with(b5=-1)), "closed")

    def test_no_cells_at_all(self):
        self.faults(begin((), ()), "closed")

    def test_the_last_cell_is_one(self):
        self.goes_on(state_with("put 0 0 1", place=15), boxes=boxes_with(b0=1))

    def test_rights_to_run(self):
        for rights in range(8):
            for place, pages in ((0, (rights, 7)), (7, (rights, 7)), (8, (7, rights)), (15, (7, rights))):
                state = state_with("put 0 0 1", place=place, rights=pages)
                with self.subTest(rights=rights, place=place):
                    if rights >= 4:
                        self.goes_on(state, boxes=boxes_with(b0=1))
                    else:
                        self.faults(state, "closed")

    def test_each_word_in_a_page_that_may_not_be_run(self):
        for word in WORDS:
            with self.subTest(word=word):
                self.faults(state_with(word + " 0 0 0", rights=(3, 7)), "closed")


class Ends(Rows):
    """Point 7: halt and bad."""

    def test_whatever_a_b_c(self):
        for word in ("halt", "bad"):
            for parts in ("0 0 0", "7 7 63", "1 2 3"):
                with self.subTest(word=word, parts=parts):
                    self.faults(state_with(f"{word} {parts}"), word)


class Put(Rows):
    """Point 7: put."""

    def test_each_box(self):
        for a in range(8):
            for c in (0, 1, 8, 63):
                state = state_with(f"put {a} 5 {c}")
                self.goes_on(state, boxes=BOXES[:a] + (c,) + BOXES[a + 1:])


class Counting(Rows):
    """Point 7: add, sub, mul and div."""

    def counts(self, word, x, y, outcome, nought, high, carry):
        """Box 2 becomes what is made of box 4 and box 6, whatever the marks were."""
        boxes = boxes_with(b4=x, b6=y)
        for marks in ((True, True, True), (False, False, False)):
            state = state_with(f"{word} 2 4 6", boxes=boxes, marks=marks)
            after = boxes[:2] + (outcome,) + boxes[3:]
            with self.subTest(word=word, x=x, y=y):
                self.goes_on(state, boxes=after, marks=(nought, high, carry))

    def test_add(self):
        self.counts("add", 1, 2, 3, False, False, False)
        self.counts("add", 0, 0, 0, True, False, False)
        self.counts("add", 32766, 1, 32767, False, False, False)
        self.counts("add", 32767, 1, 32768, False, True, False)
        self.counts("add", 65534, 1, 65535, False, True, False)
        self.counts("add", 65535, 1, 0, True, False, True)
        self.counts("add", 1, 65535, 0, True, False, True)
        self.counts("add", 65535, 2, 1, False, False, True)
        self.counts("add", 32768, 32768, 0, True, False, True)
        self.counts("add", 65535, 65535, 65534, False, True, True)

    def test_sub(self):
        self.counts("sub", 5, 3, 2, False, False, False)
        self.counts("sub", 0, 0, 0, True, False, False)
        self.counts("sub", 7, 7, 0, True, False, False)
        self.counts("sub", 65535, 65535, 0, True, False, False)
        self.counts("sub", 0, 1, 65535, False, True, True)
        self.counts("sub", 3, 5, 65534, False, True, True)
        self.counts("sub", 0, 65535, 1, False, False, True)
        self.counts("sub", 65535, 0, 65535, False, True, False)
        self.counts("sub", 32768, 1, 32767, False, False, False)
        self.counts("sub", 32769, 1, 32768, False, True, False)
        self.counts("sub", 65534, 65535, 65535, False, True, True)

    def test_mul(self):
        self.counts("mul", 3, 5, 15, False, False, False)
        self.counts("mul", 0, 65535, 0, True, False, False)
        self.counts("mul", 65535, 1, 65535, False, True, False)
        self.counts("mul", 257, 255, 65535, False, True, False)
        self.counts("mul", 256, 256, 0, True, False, True)
        self.counts("mul", 2, 32768, 0, True, False, True)
        self.counts("mul", 2, 16384, 32768, False, True, False)
        self.counts("mul", 65537 // 3, 4, 87380 - 65536, False, False, True)
        self.counts("mul", 65535, 65535, 1, False, False, True)
        self.counts("mul", 65535, 2, 65534, False, True, True)

    def test_div(self):
        self.counts("div", 6, 3, 2, False, False, False)
        self.counts("div", 7, 3, 2, False, False, True)
        self.counts("div", 2, 3, 0, True, False, True)
        self.counts("div", 0, 3, 0, True, False, False)
        self.counts("div", 65535, 1, 65535, False, True, False)
        self.counts("div", 65535, 2, 32767, False, False, True)
        self.counts("div", 32768, 1, 32768, False, True, False)
        self.counts("div", 65535, 65535, 1, False, False, False)
        self.counts("div", 65534, 65535, 0, True, False, True)

    def test_div_by_nought(self):
        for x in (0, 1, 65535):
            self.faults(state_with("div 2 4 6", boxes=boxes_with(b4=x, b6=0)), "nought")

    def test_c_is_taken_by_its_rest_at_eight(self):
        boxes = boxes_with(b4=30, b7=7)
        for c in (7, 15, 63):
            self.goes_on(state_with(f"add 0 4 {c}", boxes=boxes), boxes=(37,) + boxes[1:], marks=(False,) * 3)
            self.goes_on(state_with(f"sub 0 4 {c}", boxes=boxes), boxes=(23,) + boxes[1:], marks=(False,) * 3)
            self.goes_on(state_with(f"mul 0 4 {c}", boxes=boxes), boxes=(210,) + boxes[1:], marks=(False,) * 3)
            self.goes_on(state_with(f"div 0 4 {c}", boxes=boxes), boxes=(4,) + boxes[1:],
                         marks=(False, False, True))
        self.faults(state_with("div 0 4 62", boxes=boxes_with(b6=0)), "nought")

    def test_one_box_thrice(self):
        self.goes_on(state_with("add 1 1 1"), boxes=boxes_with(b1=44), marks=(False,) * 3)
        self.goes_on(state_with("sub 1 1 1"), boxes=boxes_with(b1=0), marks=(True, False, False))
        self.goes_on(state_with("mul 1 1 1"), boxes=boxes_with(b1=484), marks=(False,) * 3)
        self.goes_on(state_with("div 1 1 1"), boxes=boxes_with(b1=1), marks=(False,) * 3)


class Cells(Rows):
    """Point 7: get and set."""

    def test_get(self):
        cells = tuple(range(1000, 1016))
        for b, c, address in ((0, 0, 0), (9, 5, 14), (15, 0, 15), (0, 15, 15), (2, 5, 7), (2, 6, 8)):
            boxes = boxes_with(b4=b)
            state = state_with(f"get 6 4 {c}", place=3, boxes=boxes, cells=cells)
            with self.subTest(address=address):
                self.goes_on(state, boxes=boxes[:6] + (1000 + address,) + boxes[7:])

    def test_get_of_its_own_cell(self):
        own = number_of(("get", 6, 4, 3))
        self.goes_on(state_with("get 6 4 3", boxes=boxes_with(b4=0)), boxes=boxes_with(b4=0, b6=own))

    def test_get_takes_the_whole_of_c(self):
        cells = tuple(range(1000, 1064))
        state = state_with("get 6 4 63", boxes=boxes_with(b4=0), cells=cells, rights=(7,) * 8)
        self.goes_on(state, boxes=boxes_with(b4=0, b6=1063))

    def test_set(self):
        for b, c, address in ((0, 0, 0), (9, 5, 14), (15, 0, 15), (0, 15, 15), (0, 7, 7), (0, 8, 8), (0, 3, 3)):
            state = state_with(f"set 6 4 {c}", boxes=boxes_with(b4=b, b6=65535))
            cells = state[5][:address] + (65535,) + state[5][address + 1:]
            with self.subTest(address=address):
                self.goes_on(state, cells=cells)

    def test_set_of_the_same_box(self):
        state = state_with("set 4 4 1", boxes=boxes_with(b4=10))
        self.goes_on(state, cells=state[5][:11] + (10,) + state[5][12:])

    def test_beyond_the_last_cell(self):
        for b, c in ((16, 0), (0, 16), (15, 1), (65535, 0), (100, 63)):
            for word in ("get", "set"):
                with self.subTest(word=word, b=b, c=c):
                    self.faults(state_with(f"{word} 6 4 {c}", boxes=boxes_with(b4=b)), "closed")

    def test_a_sum_above_65535_is_not_taken_by_its_rest(self):
        for b, c in ((65535, 1), (65535, 2), (65530, 10), (65535, 63)):
            for word in ("get", "set"):
                with self.subTest(word=word, b=b, c=c):
                    self.faults(state_with(f"{word} 6 4 {c}", boxes=boxes_with(b4=b)), "closed")

    def test_rights_to_read(self):
        for rights in range(8):
            for address in (8, 15):
                boxes = boxes_with(b4=address)
                state = state_with("get 6 4 0", boxes=boxes, rights=(4, rights))
                with self.subTest(rights=rights, address=address):
                    if rights in (1, 3, 5, 7):
                        self.goes_on(state, boxes=boxes[:6] + (500,) + boxes[7:])
                    else:
                        self.faults(state, "closed")

    def test_rights_to_write(self):
        for rights in range(8):
            for address in (8, 15):
                state = state_with("set 6 4 0", boxes=boxes_with(b4=address), rights=(4, rights))
                with self.subTest(rights=rights, address=address):
                    if rights in (2, 3, 6, 7):
                        self.goes_on(state, cells=state[5][:address] + (77,) + state[5][address + 1:])
                    else:
                        self.faults(state, "closed")

    def test_the_page_that_is_run_need_not_be_read_or_written(self):
        self.faults(state_with("get 6 4 0", boxes=boxes_with(b4=3), rights=(4, 7)), "closed")
        self.faults(state_with("set 6 4 0", boxes=boxes_with(b4=3), rights=(4, 7)), "closed")


class Leaps(Rows):
    """Point 7: jump, when and go."""

    def test_jump(self):
        for place, c, to in ((3, 32, 4), (3, 31, 3), (3, 33, 5), (3, 63, 35), (15, 63, 47), (0, 31, 0), (15, 16, 0),
                             (15, 20, 4)):
            with self.subTest(place=place, c=c):
                self.goes_on(state_with(f"jump 7 7 {c}", place=place), place=to)

    def test_jump_ahead_of_the_first_cell(self):
        for place, c, to in ((0, 30, 65535), (0, 0, 65505), (3, 0, 65508), (3, 27, 65535), (15, 15, 65535)):
            with self.subTest(place=place, c=c):
                self.goes_on(state_with(f"jump 0 0 {c}", place=place), place=to)

    def test_when_for_each_a_with_each_mark(self):
        for number in range(8):
            nought, high, carry = number % 2 == 1, number // 2 % 2 == 1, number // 4 == 1
            leaps = (nought, not nought, high, not high, carry, not carry, True, False)
            for a in range(8):
                state = state_with(f"when {a} 7 40", marks=(nought, high, carry))
                with self.subTest(a=a, marks=state[2]):
                    self.goes_on(state, place=12 if leaps[a] else 4)

    def test_when_ahead_of_the_first_cell(self):
        self.goes_on(state_with("when 6 0 0", place=0), place=65505)
        self.goes_on(state_with("when 7 0 0", place=0), place=1)

    def test_go(self):
        for place in (0, 3, 15, 16, 65535):
            with self.subTest(place=place):
                self.goes_on(state_with("go 5 1 9", boxes=boxes_with(b5=place)), place=place)


class Numbers(Rows):
    """Point 7: tell and hear."""

    def test_tell(self):
        for number in (0, 1, 65535):
            self.goes_on(state_with("tell 5 1 9", boxes=boxes_with(b5=number)), told=(number,), heard=6)

    def test_hear(self):
        for number in (0, 1, 65535):
            self.goes_on(state_with("hear 5 1 9"), heard=number, boxes=boxes_with(b5=number))

    def test_no_other_word_hears(self):
        for word in WORDS:
            if word != "hear":
                state = state_with(word + " 5 1 9", boxes=boxes_with(b1=1, b5=1))
                with self.subTest(word=word):
                    self.assertEqual(do_row(state, 0), do_row(state, 40000))


class Rights(Rows):
    """Point 7: right."""

    def test_each_page_and_right(self):
        for page in (0, 1):
            for c in tuple(range(8)) + (8, 13, 63):
                state = state_with(f"right 5 1 {c}", boxes=boxes_with(b5=page), rights=(6, 3))
                with self.subTest(page=page, c=c):
                    self.goes_on(state, rights=(c % 8, 3) if page == 0 else (6, c % 8))

    def test_a_page_that_there_is_not(self):
        for page in (2, 3, 15, 16, 65535):
            with self.subTest(page=page):
                self.faults(state_with("right 5 1 7", boxes=boxes_with(b5=page)), "closed")

    def test_a_page_may_be_closed_to_its_own_row(self):
        state = state_with("right 5 1 3", boxes=boxes_with(b5=0))
        after = do_row(state, 0)[1]
        self.assertEqual(after[0], 4)
        self.faults(after, "closed")


class Back(Rows):
    """Point 7: back."""

    def test_with_saved(self):
        for place in (0, 9, 65535):
            for marks in ((False, True, False), (True, False, True)):
                state = state_with("back 5 1 9", saved=(place, marks), marks=(True, True, False))
                with self.subTest(place=place, marks=marks):
                    self.goes_on(state, place=place, marks=marks, saved=None)

    def test_without_saved(self):
        self.faults(state_with("back 5 1 9", saved=None), "bad")


if __name__ == "__main__":
    unittest.main()
