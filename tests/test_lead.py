"""Points 2, 12 and 13: asitruns.middle.lead."""

import unittest

from asitruns.guest.rows import number_of
from asitruns.guest.runs import run
from asitruns.guest.steps import do_row
from asitruns.middle.blocks import block_at
from asitruns.middle.lead import lead
from asitruns.middle.nodes import under, worths
from helper import BOXES, FIRST, MARKS, WORDS, Same, altered, kinds_of, mixed, program, rows_of, state_of

# Two rows ahead of the one that is looked at: they fill box 1 (node 15), box 2 (node 11) and the marks.
FILLING = ("add 2 3 4", "put 1 0 9")
FILLED = FIRST + (("add", 3, 4), ("nought", 11), ("high", 11), ("over", 3, 4), ("num", 9))
FILLED_BOXES = (0, 15, 11, 3, 4, 5, 6, 7)
FILLED_MARKS = (12, 13, 14)


class Leading(Same):
    """What the tests of points 12 and 13 ask again and again."""

    def leads(self, place, rows, nodes, things, left):
        """The rows, texts, led from the place have these nodes behind the first eleven, items and exit."""
        numbers = rows_of(*rows)
        with self.subTest(place=place, rows=rows):
            self.same(lead(place, numbers), (place, numbers, FIRST + nodes, things, left))

    def leads_filled(self, row, nodes, things, left):
        """The row, behind those that fill, has these nodes behind theirs, items and exit."""
        self.leads(100, FILLING + (row,), FILLED[11:] + nodes, things, left)


class Put(Leading):

    def test_alone(self):
        self.leads(5, ("put 3 7 0",), (("num", 0),), (), ("on", (6,), (0, 1, 2, 11, 4, 5, 6, 7), MARKS))
        self.leads(5, ("put 7 7 63",), (("num", 63),), (), ("on", (6,), (0, 1, 2, 3, 4, 5, 6, 11), MARKS))

    def test_behind_others(self):
        self.leads_filled("put 1 0 9", (("num", 9),), (), ("on", (103,), (0, 16, 11, 3, 4, 5, 6, 7), FILLED_MARKS))


class Counting(Leading):
    """add, sub, mul and div."""

    def test_alone(self):
        for word, carry in (("add", "over"), ("sub", "under"), ("mul", "wide")):
            self.leads(5, (word + " 3 6 4",), ((word, 6, 4), ("nought", 11), ("high", 11), (carry, 6, 4)), (),
                       ("on", (6,), (0, 1, 2, 11, 4, 5, 6, 7), (12, 13, 14)))

    def test_c_by_its_rest_at_eight(self):
        for word, carry in (("add", "over"), ("sub", "under"), ("mul", "wide")):
            self.leads(5, (word + " 0 6 63",), ((word, 6, 7), ("nought", 11), ("high", 11), (carry, 6, 7)), (),
                       ("on", (6,), (11, 1, 2, 3, 4, 5, 6, 7), (12, 13, 14)))

    def test_behind_others(self):
        for word, carry in (("add", "over"), ("sub", "under"), ("mul", "wide")):
            self.leads_filled(word + " 2 1 10", ((word, 15, 11), ("nought", 16), ("high", 16), (carry, 15, 11)), (),
                              ("on", (103,), (0, 15, 16, 3, 4, 5, 6, 7), (17, 18, 19)))

    def test_one_box_thrice(self):
        self.leads_filled("sub 1 1 1", (("sub", 15, 15), ("nought", 16), ("high", 16), ("under", 15, 15)), (),
                          ("on", (103,), (0, 16, 11, 3, 4, 5, 6, 7), (17, 18, 19)))

    def test_div_alone(self):
        self.leads(5, ("div 3 6 12",), (("item", 0), ("nought", 11), ("high", 11), ("rest", 6, 4)),
                   (("div", 0, (6, 4), BOXES, MARKS),),
                   ("on", (6,), (0, 1, 2, 11, 4, 5, 6, 7), (12, 13, 14)))

    def test_div_behind_others(self):
        self.leads_filled("div 1 1 2", (("item", 0), ("nought", 16), ("high", 16), ("rest", 15, 11)),
                          (("div", 2, (15, 11), FILLED_BOXES, FILLED_MARKS),),
                          ("on", (103,), (0, 16, 11, 3, 4, 5, 6, 7), (17, 18, 19)))


class Cells(Leading):
    """get and set."""

    def test_get_alone(self):
        for c in (0, 9, 63):
            self.leads(5, (f"get 3 6 {c}",), (("num", c), ("item", 0)), (("get", 0, (6, 11), BOXES, MARKS),),
                       ("on", (6,), (0, 1, 2, 12, 4, 5, 6, 7), MARKS))

    def test_get_behind_others(self):
        self.leads_filled("get 2 1 9", (("num", 9), ("item", 0)),
                          (("get", 2, (15, 16), FILLED_BOXES, FILLED_MARKS),),
                          ("on", (103,), (0, 15, 17, 3, 4, 5, 6, 7), FILLED_MARKS))

    def test_get_into_the_box_of_its_address(self):
        self.leads_filled("get 1 1 0", (("num", 0), ("item", 0)),
                          (("get", 2, (15, 16), FILLED_BOXES, FILLED_MARKS),),
                          ("on", (103,), (0, 17, 11, 3, 4, 5, 6, 7), FILLED_MARKS))

    def test_set_alone(self):
        for c in (0, 9, 63):
            self.leads(5, (f"set 3 6 {c}",), (("num", c),), (("set", 0, (6, 11, 3), BOXES, MARKS),),
                       ("on", (6,), BOXES, MARKS))

    def test_set_behind_others(self):
        self.leads_filled("set 2 1 9", (("num", 9),), (("set", 2, (15, 16, 11), FILLED_BOXES, FILLED_MARKS),),
                          ("on", (103,), FILLED_BOXES, FILLED_MARKS))


class Numbers(Leading):
    """tell and hear."""

    def test_tell_alone(self):
        self.leads(5, ("tell 3 6 9",), (), (("tell", 0, (3,), BOXES, MARKS),), ("on", (6,), BOXES, MARKS))

    def test_tell_behind_others(self):
        self.leads_filled("tell 2 6 9", (), (("tell", 2, (11,), FILLED_BOXES, FILLED_MARKS),),
                          ("on", (103,), FILLED_BOXES, FILLED_MARKS))

    def test_hear_alone(self):
        self.leads(5, ("hear 3 6 9",), (("item", 0),), (("hear", 0, (), BOXES, MARKS),),
                   ("on", (6,), (0, 1, 2, 11, 4, 5, 6, 7), MARKS))

    def test_hear_behind_others(self):
        self.leads_filled("hear 2 6 9", (("item", 0),), (("hear", 2, (), FILLED_BOXES, FILLED_MARKS),),
                          ("on", (103,), (0, 15, 16, 3, 4, 5, 6, 7), FILLED_MARKS))


class Rights(Leading):
    """right."""

    def test_alone(self):
        for c, rights in ((0, 0), (7, 7), (8, 0), (63, 7), (13, 5)):
            self.leads(5, (f"right 3 6 {c}",), (("num", rights),), (("right", 0, (3, 11), BOXES, MARKS),),
                       ("on", (6,), BOXES, MARKS))

    def test_behind_others(self):
        self.leads_filled("right 2 6 13", (("num", 5),), (("right", 2, (11, 16), FILLED_BOXES, FILLED_MARKS),),
                          ("on", (103,), FILLED_BOXES, FILLED_MARKS))

    def test_at_the_last_place(self):
        self.leads(65535, ("right 3 6 13",), (("num", 5),), (("right", 0, (3, 11), BOXES, MARKS),),
                   ("on", (0,), BOXES, MARKS))


class Ends(Leading):
    """halt, bad, back and go."""

    def test_without_numbers(self):
        for word in ("halt", "bad", "back"):
            for parts in ("0 0 0", "7 7 63"):
                row = f"{word} {parts}"
                self.leads(5, (row,), (), (), (word, (), BOXES, MARKS))
                self.leads(65535, (row,), (), (), (word, (), BOXES, MARKS))
                self.leads_filled(row, (), (), (word, (), FILLED_BOXES, FILLED_MARKS))

    def test_go(self):
        self.leads(5, ("go 3 6 9",), (), (), ("go", (3,), BOXES, MARKS))
        self.leads_filled("go 2 6 9", (), (), ("go", (11,), FILLED_BOXES, FILLED_MARKS))


class Leaps(Leading):
    """jump and when, and where places come to by their rest."""

    def test_jump(self):
        for place, c, to in ((5, 32, 6), (5, 31, 5), (5, 63, 37), (5, 26, 0), (5, 25, 65535), (0, 0, 65505),
                             (65535, 32, 0), (65535, 31, 65535), (65535, 63, 31), (65500, 63, 65532),
                             (65504, 63, 0), (65535, 0, 65504)):
            self.leads(place, (f"jump 7 7 {c}",), (), (), ("on", (to,), BOXES, MARKS))

    def test_jump_behind_others(self):
        # It stands at place 102.
        self.leads_filled("jump 0 0 40", (), (), ("on", (111,), FILLED_BOXES, FILLED_MARKS))

    def test_when_alone(self):
        ways = (("when", (8, 14, 6)), ("when", (8, 6, 14)), ("when", (9, 14, 6)), ("when", (9, 6, 14)),
                ("when", (10, 14, 6)), ("when", (10, 6, 14)), ("on", (14,)), ("on", (6,)))
        for a, way in enumerate(ways):
            self.leads(5, (f"when {a} 7 40",), (), (), way + (BOXES, MARKS))

    def test_when_behind_others(self):
        ways = (("when", (12, 111, 103)), ("when", (12, 103, 111)), ("when", (13, 111, 103)),
                ("when", (13, 103, 111)), ("when", (14, 111, 103)), ("when", (14, 103, 111)),
                ("on", (111,)), ("on", (103,)))
        for a, way in enumerate(ways):
            self.leads_filled(f"when {a} 7 40", (), (), way + (FILLED_BOXES, FILLED_MARKS))

    def test_when_with_places_by_their_rest(self):
        for place, c, to, behind in ((0, 0, 65505, 1), (0, 30, 65535, 1), (65535, 32, 0, 0), (65535, 40, 8, 0),
                                     (65534, 33, 0, 65535), (65534, 63, 30, 65535)):
            self.leads(place, (f"when 0 0 {c}",), (), (), ("when", (8, to, behind), BOXES, MARKS))
            self.leads(place, (f"when 5 0 {c}",), (), (), ("when", (10, behind, to), BOXES, MARKS))
            self.leads(place, (f"when 6 0 {c}",), (), (), ("on", (to,), BOXES, MARKS))
            self.leads(place, (f"when 7 0 {c}",), (), (), ("on", (behind,), BOXES, MARKS))

    def test_when_with_one_place(self):
        self.leads(5, ("when 2 0 32",), (), (), ("when", (9, 6, 6), BOXES, MARKS))

    def test_rows_that_end_otherwise(self):
        for place, behind in ((0, 2), (5, 7), (65533, 65535), (65534, 0), (65535, 1)):
            self.leads(place, ("put 0 0 1", "put 0 0 2"), (("num", 1), ("num", 2)), (),
                       ("on", (behind,), (12, 1, 2, 3, 4, 5, 6, 7), MARKS))

    def test_a_leap_behind_other_rows_over_the_last_place(self):
        self.leads(65535, ("put 0 0 1", "jump 0 0 30"), (("num", 1),), (),
                   ("on", (65535,), (11, 1, 2, 3, 4, 5, 6, 7), MARKS))


class Whole(Leading):
    """Blocks of several rows."""

    def test_items_in_their_order(self):
        self.leads(
            40, ("hear 1 0 0", "get 2 1 3", "div 3 2 1", "set 3 2 4", "tell 3 0 0", "get 1 1 0", "right 1 0 4"),
            (("item", 0), ("num", 3), ("item", 1), ("item", 2), ("nought", 14), ("high", 14), ("rest", 13, 11),
             ("num", 4), ("num", 0), ("item", 5), ("num", 4)),
            (("hear", 0, (), BOXES, MARKS),
             ("get", 1, (11, 12), (0, 11, 2, 3, 4, 5, 6, 7), MARKS),
             ("div", 2, (13, 11), (0, 11, 13, 3, 4, 5, 6, 7), MARKS),
             ("set", 3, (13, 18, 14), (0, 11, 13, 14, 4, 5, 6, 7), (15, 16, 17)),
             ("tell", 4, (14,), (0, 11, 13, 14, 4, 5, 6, 7), (15, 16, 17)),
             ("get", 5, (11, 19), (0, 11, 13, 14, 4, 5, 6, 7), (15, 16, 17)),
             ("right", 6, (20, 21), (0, 20, 13, 14, 4, 5, 6, 7), (15, 16, 17))),
            ("on", (47,), (0, 20, 13, 14, 4, 5, 6, 7), (15, 16, 17)))

    def test_new_nodes_also_where_there_are_such(self):
        self.leads(0, ("put 0 0 5", "put 1 0 5", "add 2 0 1", "add 2 0 1", "halt 0 0 0"),
                   (("num", 5), ("num", 5), ("add", 11, 12), ("nought", 13), ("high", 13), ("over", 11, 12),
                    ("add", 11, 12), ("nought", 17), ("high", 17), ("over", 11, 12)), (),
                   ("halt", (), (11, 12, 17, 3, 4, 5, 6, 7), (18, 19, 20)))

    def test_sixty_rows(self):
        nodes = []
        for step in range(59):
            sum_node = 11 + 4 * step
            ahead = sum_node - 4 if step else 1
            nodes += [("add", ahead, 2), ("nought", sum_node), ("high", sum_node), ("over", ahead, 2)]
        self.leads(10, ("add 1 1 2",) * 59 + ("when 4 0 0",), tuple(nodes), (),
                   ("when", (246, 38, 70), (0, 243, 2, 3, 4, 5, 6, 7), (244, 245, 246)))

    def test_sixty_items(self):
        made = lead(0, rows_of(*("div 1 1 2",) * 60))
        self.assertEqual(len(made[2]), 11 + 4 * 60)
        self.assertEqual([thing[:2] for thing in made[3]], [("div", at) for at in range(60)])
        self.assertEqual(made[2][-4:], (("item", 59), ("nought", 247), ("high", 247), ("rest", 243, 2)))
        self.assertEqual(made[3][59][2], (243, 2))
        self.assertEqual(made[4][:2], ("on", (60,)))

    def test_somewhat_beyond_the_bounds(self):
        self.leads(0, ("put 0 0 1",) * 61, (("num", 1),) * 61, (), ("on", (61,), (71,) + BOXES[1:], MARKS))
        self.same(lead(9, ()), (9, (), FIRST, (), ("on", (9,), BOXES, MARKS)))

    def test_nothing_is_kept_of_what_is_handed_in(self):
        rows = [number_of(("put", 0, 0, 1)), number_of(("halt", 0, 0, 0))]
        before = list(rows)
        made = lead(3, rows)
        self.assertEqual(rows, before)
        self.same(made, lead(3, tuple(rows)))
        rows.clear()
        self.same(made, lead(3, tuple(before)))

    def test_all_of_it_is_tuples(self):
        for word in WORDS:
            kinds = repr(kinds_of(lead(0, rows_of("put 1 0 2", word + " 1 2 3"))))
            with self.subTest(word=word):
                self.assertNotIn("class 'list'", kinds)


class AsTheRowsDo(Same):
    """Point 13: the nodes of a block's items and exit are worth what the plain run shows at their rows."""

    def test_programs(self):
        words = {}
        for seed in range(400):
            numbers = mixed(seed, 50)
            state = altered(state_of(), cells=program(numbers[:32]), rights=(7,) * 4, place=seed % 32,
                            boxes=tuple([number % (3 if seed % 2 else 65536) for number in numbers[32:40]]),
                            marks=tuple([number % 2 == 0 for number in numbers[40:43]]),
                            saved=(7, (True, False, True)))
            with self.subTest(seed=seed):
                self.look_at(state, numbers[43:], words)
        self.assertEqual(sorted(words), sorted(["div", "get", "set", "tell", "hear", "right", "halt", "bad", "on",
                                                "when", "go", "back"]))

    def look_at(self, state, given, words):
        """Goes along a block of the state row by row, with the middle block beside it."""
        rows = block_at(state, state[0])
        made = lead(state[0], rows)
        brought = []
        begun = state
        heard = 0
        for at in range(len(rows)):
            for thing in made[3]:
                if thing[1] == at:
                    brought.append(self.look_at_item(thing, made, begun, state, brought, given[heard]))
                    words[thing[0]] = True
            how, state, told = do_row(state, given[heard])
            if how != "on":
                break
            if state[5][begun[0]:begun[0] + len(rows)] != rows:
                # The block has written over itself: from here on the plain run does other rows.
                return
            heard += rows[at] // 4096 == 13
        if how in ("on", "halt") or rows[-1] // 4096 == 5 and how == "bad":
            self.look_at_exit(made, begun, state, brought)
            words[made[4][0]] = True

    def look_at_item(self, thing, made, begun, state, brought, given):
        """What the item brings, by its own numbers."""
        word, at, numbers, boxes, marks = thing
        values = worths(made[2], begun[1], begun[2], brought)
        self.assertEqual(state[0], begun[0] + at)
        self.assertEqual(tuple([values[number] for number in boxes]), state[1])
        self.assertEqual(tuple([values[number] for number in marks]), state[2])
        parts = [values[number] for number in numbers]
        how, behind, told = do_row(state, given)
        if how != "on":
            return None
        if word == "get":
            return state[5][parts[0] + parts[1]]
        if word == "div":
            return parts[0] // parts[1]
        if word == "hear":
            return given
        if word == "set":
            self.assertEqual(behind[5][parts[0] + parts[1]], parts[2])
        elif word == "tell":
            self.assertEqual(told, (parts[0],))
        else:
            self.assertEqual(behind[4][parts[0]], parts[1])
        return None

    def look_at_exit(self, made, begun, state, brought):
        word, numbers, boxes, marks = made[4]
        values = worths(made[2], begun[1], begun[2], brought)
        self.assertEqual(tuple([values[number] for number in boxes]), state[1])
        if word == "back":
            self.assertEqual((state[0], state[2:4]), (7, ((True, False, True), None)))
            return
        self.assertEqual(tuple([values[number] for number in marks]), state[2])
        if word == "on":
            self.assertEqual(numbers, (state[0],))
        elif word == "go":
            self.assertEqual(values[numbers[0]], state[0])
        elif word == "when":
            self.assertEqual(numbers[1] if values[numbers[0]] else numbers[2], state[0])
        else:
            self.assertEqual(state[0], begun[0] + len(made[1]) - 1)

    def test_names_nodes_ahead_only(self):
        for seed in range(50):
            state = altered(state_of(), cells=program(mixed(seed, 32)), rights=(7,) * 4)
            nodes = lead(0, block_at(state, 0))[2]
            for number, node in enumerate(nodes):
                self.assertTrue(all([0 <= one < number for one in under(node)]))

    def test_a_whole_program_by_its_blocks(self):
        # Counts down from 5 and tells each number: two blocks, of which the second one leaps to itself.
        state = state_of("put 1 0 5", "put 2 0 1", "jump 0 0 32", "tell 1 0 0", "sub 1 1 2", "when 1 0 29",
                         "halt 0 0 0")
        self.assertEqual(run(state, [], [], 0)[2], (5, 4, 3, 2, 1))
        self.assertEqual(lead(0, block_at(state, 0))[4][:2], ("on", (3,)))
        self.assertEqual(lead(3, block_at(state, 3))[4][:2], ("when", (12, 6, 3)))


if __name__ == "__main__":
    unittest.main()
