"""Points 2, 3 and 16: asitruns.middle.looker."""

import unittest

from asitruns.guest.rows import number_of
from asitruns.middle.done import do_block
from asitruns.middle.lead import lead
from asitruns.middle.looker import lets_by
from helper import (
    BOXES, FIRST, MARKS, RULES, Maker, Same, changed, close_rows, keeping_all, mixed, paths_of, row_by_row, rows_of,
    some_rows, some_state,
)

FIRST_LIKES = tuple([(k, ()) for k in range(11)])

# A block with each thing that a paper tells of: its plain nodes from 11 on are num 4, item 0; num 4, item 1; num 0;
# add 12 15, nought 16, high 16, over 12 15; item 2; num 4; num 4, item 5.
ROWS = rows_of("get 1 0 4", "get 2 0 4", "put 3 0 0", "add 4 1 3", "hear 5 0 0", "tell 4 0 0", "set 4 0 4",
               "get 6 0 4", "when 0 0 40")
NODES = FIRST + (("num", 4), ("item", 0), ("num", 0), ("nought", 12), ("high", 12), ("no",), ("item", 1), ("item", 4))
LATER = (0, 12, 12, 13, 12, 17, 6, 7)
ITEMS = (
    ("get", 0, (0, 11), BOXES, MARKS),
    ("hear", 4, (), (0, 12, 12, 13, 12, 5, 6, 7), (14, 15, 16)),
    ("tell", 5, (12,), LATER, (14, 15, 16)),
    ("set", 6, (0, 11, 12), LATER, (14, 15, 16)),
    ("get", 7, (0, 11), LATER, (14, 15, 16)),
)
EXIT = ("when", (14, 37, 29), (0, 12, 12, 13, 12, 17, 18, 7), (14, 15, 16))
BLOCK = (20, ROWS, NODES, ITEMS, EXIT)
FATES = (("kept", 0), ("again", 0), ("kept", 1), ("kept", 2), ("kept", 3), ("kept", 4))
LIKES = FIRST_LIKES + (
    (11, ()), (12, ()), (11, ()), (12, ()), (13, ()),
    (12, (("zero", 0),)), (14, ()), (15, ()), (16, (("never", 0),)),
    (17, ()), (11, ()), (11, ()), (18, ()))
PAPER = (FATES, LIKES)


class Looking(Same):
    """What the tests of point 16 ask again and again."""

    def lets(self, block, paper):
        """It is let by, and does what its rows do."""
        with self.subTest(block=block, paper=paper):
            self.assertIs(lets_by(block, paper), True)
            self.does_the_same(block, range(40))

    def does_the_same(self, block, seeds):
        for seed in seeds:
            given = mixed(seed, seed % 4)
            watched = ((), (), (0,), (1, 3))[seed % 4]
            state = some_state(seed)
            self.same(do_block(block, state, given, watched),
                      row_by_row(block[0], block[1], state, given, watched))

    def refuses(self, block, paper):
        with self.subTest(block=block, paper=paper):
            self.assertIs(lets_by(block, paper), False)

    def refuses_block(self, path, *news):
        """The block of the example with each of these at the path is not let by."""
        for new in news:
            self.refuses(changed(BLOCK, path, new), PAPER)

    def refuses_paper(self, path, *news):
        for new in news:
            self.refuses(BLOCK, changed(PAPER, path, new))


class LetBy(Looking):
    """Point 16: what is let by."""

    def test_the_plain_block_with_the_paper_that_keeps_all(self):
        for rows in (("halt 0 0 0",), ("put 0 0 1",), ("back 0 0 0",), ("go 3 0 0",), ("when 5 0 1",),
                     ("right 3 0 9",), ("div 1 2 3", "hear 4 0 0", "tell 4 0 0", "bad 0 0 0"),
                     ("set 1 2 3", "get 1 2 3", "get 1 2 3", "mul 1 1 1", "sub 0 1 1", "jump 0 0 0")):
            for place in (0, 20, 65535):
                plain = lead(place, rows_of(*rows))
                self.lets(plain, keeping_all(plain))
        for seed in range(60):
            plain = lead(seed % 9, some_rows(seed, 1 + seed % 60))
            self.lets(plain, keeping_all(plain))

    def test_the_example(self):
        self.assertEqual(lead(20, ROWS)[2][11:], (
            ("num", 4), ("item", 0), ("num", 4), ("item", 1), ("num", 0), ("add", 12, 15), ("nought", 16),
            ("high", 16), ("over", 12, 15), ("item", 2), ("num", 4), ("num", 4), ("item", 5)))
        self.lets(BLOCK, PAPER)

    def test_it_is_asked_again(self):
        for turn in range(3):
            self.assertIs(lets_by(BLOCK, PAPER), True)
            self.assertIs(lets_by(BLOCK, (FATES, LIKES[:-1])), False)

    def test_a_get_that_is_again_of_one_that_is_again(self):
        rows = rows_of("get 1 0 4", "get 2 0 4", "tell 1 0 0", "get 3 0 4", "halt 0 0 0")
        nodes = FIRST + (("num", 4), ("item", 0))
        boxes = (0, 12, 12, 3, 4, 5, 6, 7)
        block = (0, rows, nodes, (("get", 0, (0, 11), BOXES, MARKS), ("tell", 2, (12,), boxes, MARKS)),
                 ("halt", (), (0, 12, 12, 12, 4, 5, 6, 7), MARKS))
        likes = FIRST_LIKES + ((11, ()), (12, ())) * 3
        for i in (0, 1):
            self.lets(block, ((("kept", 0), ("again", 0), ("kept", 1), ("again", i)), likes))
        self.refuses(block, ((("kept", 0), ("again", 0), ("kept", 1), ("again", 2)), likes))

    def test_a_get_that_is_again_with_numbers_that_are_turned_to_the_same_nodes(self):
        # Box 3 becomes box 0 added with 0, so it is like box 0.
        rows = rows_of("put 7 0 0", "add 3 0 7", "get 1 0 4", "get 2 3 4", "go 2 0 0")
        nodes = FIRST + (("num", 0), ("nought", 0), ("high", 0), ("no",), ("num", 4), ("item", 0))
        boxes = (0, 1, 2, 0, 4, 5, 6, 11)
        block = (9, rows, nodes, (("get", 2, (0, 15), boxes, (12, 13, 14)),),
                 ("go", (16,), (0, 16, 16, 0, 4, 5, 6, 11), (12, 13, 14)))
        likes = FIRST_LIKES + ((11, ()), (0, (("zero", 3),)), (12, ()), (13, ()), (14, (("never", 1),)),
                               (15, ()), (16, ()), (15, ()), (16, ()))
        self.lets(block, ((("kept", 0), ("again", 0)), likes))

    def test_nodes_left_out_on_which_nothing_kept_hangs(self):
        # Marks and box 1 of the first row are written over ahead of all that is kept.
        rows = rows_of("add 1 2 3", "sub 1 4 4", "tell 1 0 0", "bad 0 0 0")
        nodes = FIRST + (("num", 0), ("yes",), ("no",))
        boxes = (0, 11, 2, 3, 4, 5, 6, 7)
        block = (0, rows, nodes, (("tell", 2, (11,), boxes, (12, 13, 13)),), ("bad", (), boxes, (12, 13, 13)))
        likes = FIRST_LIKES[:1] + (None,) + FIRST_LIKES[2:8] + (None,) * 7 + (
            (11, (("self", 0),)), (12, (("sure", 0),)), (13, (("sure", 0),)), (13, (("never", 0),)))
        self.lets(block, ((("kept", 0),), likes))
        # Those may also be like some node, as long as those that they name are.
        nodes += (("add", 2, 3), ("high", 14))
        block = block[:2] + (nodes,) + block[3:]
        self.lets(block, ((("kept", 0),), changed(likes, (11,), (14, (("swap", 0), ("swap", 0))))))
        self.lets(block, ((("kept", 0),), changed(changed(likes, (11,), (14, ())), (13,), (15, ()))))
        self.refuses(block, ((("kept", 0),), changed(likes, (13,), (15, ()))))
        self.refuses(block, ((("kept", 0),), changed(likes, (11,), (15, ()))))

    def test_each_rule(self):
        # Each row's box a comes to a node by the step told; what is in box 0 to 3 is not known.
        rows = rows_of("put 4 0 0", "put 5 0 1", "put 6 0 5",
                       "add 7 0 1", "add 7 7 2", "add 7 0 4", "mul 7 0 5", "mul 7 0 4", "sub 7 0 0", "add 7 6 6",
                       "sub 7 0 6", "mul 7 0 1", "mul 7 2 7", "jump 0 0 0")
        plain = lead(50, rows)
        nodes = plain[2][:14] + (
            ("add", 0, 1), ("add", 1, 2), ("add", 0, 15), ("num", 10), ("num", 65531), ("add", 0, 18),
            ("mul", 2, 0), ("mul", 20, 1), ("mul", 0, 1), ("nought", 21), ("high", 21), ("wide", 22, 2), ("no",))
        boxes = (0, 1, 2, 3, 11, 12, 13, 21)
        block = (50, rows, nodes, (), ("on", (32,), boxes, (23, 24, 25)))
        steps = {14: (14, ()), 18: (16, (("group", 15),)), 22: (0, (("zero", 0),)), 26: (0, (("one", 0),)),
                 30: (11, (("nil", 0),)), 37: (26, (("never", 0),)), 38: (17, (("count", 0),)),
                 41: (26, (("sure", 0),)), 42: (19, (("subnum", 18),)), 46: (22, ()),
                 50: (21, (("ungroup", 20),)), 51: (23, ()), 52: (24, ()), 53: (25, (("swap", 0),))}
        likes = FIRST_LIKES[:8] + (None,) * 3 + tuple([(k, ()) for k in (11, 12, 13)])
        likes += tuple([steps.get(number) for number in range(14, len(plain[2]))])
        self.assertEqual(plain[2][34:38], (("sub", 0, 0), ("nought", 34), ("high", 34), ("under", 0, 0)))
        likes = changed(likes, (34,), (11, (("self", 0),)))
        self.assertEqual({step[0] for like in likes if like for step in like[1]}, set(RULES))
        self.lets(block, ((), likes))
        # Each of these steps is needed.
        for number, like in enumerate(likes):
            if like is not None and like[1]:
                self.refuses(block, ((), changed(likes, (number, 1), ())))

    def test_a_table_in_another_order(self):
        order = (12, 14, 18, 16, 13, 11, 15, 17) + tuple(range(10, -1, -1))
        self.assertEqual(sorted(order), list(range(19)))
        new = {number: k for k, number in enumerate(order)}

        def again(numbers):
            return tuple([new[number] for number in numbers])

        nodes = tuple([node[:1] + again(node[1:]) if node[0] in ("nought", "high") else node
                       for node in [NODES[number] for number in order]])
        things = tuple([thing[:2] + tuple([again(part) for part in thing[2:]]) for thing in ITEMS])
        left = ("when", (new[14], 37, 29), again(EXIT[2]), again(EXIT[3]))
        likes = tuple([(new[j], steps) for j, steps in LIKES])
        self.lets((20, ROWS, nodes, things, left), (FATES, likes))

    def test_nodes_that_stand_twice_or_that_nothing_hangs_on(self):
        for node in (("num", 65535), ("num", 0), ("box", 0), ("box", 7), ("mark", 0), ("mark", 2), ("item", 0),
                     ("item", 1), ("item", 4), ("add", 0, 18), ("sub", 18, 18), ("mul", 17, 12), ("nought", 18),
                     ("high", 0), ("over", 12, 13), ("under", 0, 0), ("wide", 1, 2), ("rest", 0, 13), ("yes",),
                     ("no",)):
            block = changed(BLOCK, (2,), NODES + (node,))
            self.lets(block, PAPER)
        # A like may be any of the nodes that are the same word for word.
        block = changed(BLOCK, (2,), NODES + (("item", 4),))
        self.lets(changed(block, (4, 2, 6), 19), changed(PAPER, (1, 23), (19, ())))


class Kept(Looking):
    """Point 16: the made block's items j, rising, all of them."""

    PLAIN = lead(0, rows_of("tell 1 0 0", "tell 2 0 0", "tell 2 0 0", "halt 0 0 0"))

    def with_items(self, things, *js):
        return (changed(self.PLAIN, (3,), things), (tuple([("kept", j) for j in js]), keeping_all(self.PLAIN)[1]))

    def test_in_order(self):
        self.lets(*self.with_items(self.PLAIN[3], 0, 1, 2))

    def test_left_out(self):
        one, two, three = self.PLAIN[3]
        self.refuses(*self.with_items((one, two), 0, 1))
        self.refuses(*self.with_items((one, two), 0, 1, 2))
        self.refuses(*self.with_items((two, three), -1, 0, 1))
        self.refuses(*self.with_items((one, three), 0, 2, 1))
        self.refuses(*self.with_items((), *()))
        self.refuses(*self.with_items((one, two, three), 0, 1))

    def test_doubled(self):
        one, two, three = self.PLAIN[3]
        self.refuses(*self.with_items((one, two), 0, 1, 1))
        self.refuses(*self.with_items((one, two, three), 0, 1, 1))
        self.refuses(*self.with_items((one, two, three), 0, 0, 1))
        self.refuses(*self.with_items((one, one, two, three), 0, 2, 3))
        self.refuses(*self.with_items((one, two, three, three), 0, 1, 2))
        self.refuses(*self.with_items((one, two, three, three), 0, 1, 2, 3))

    def test_out_of_order(self):
        one, two, three = self.PLAIN[3]
        self.refuses(*self.with_items((two, one, three), 1, 0, 2))
        self.refuses(*self.with_items((one, three, two), 0, 2, 1))
        self.refuses(*self.with_items((one, two, three), 1, 0, 2))
        self.refuses(*self.with_items((one, two, three), 1, 2, 3))
        self.refuses(*self.with_items((one, two, three), -3, -2, -1))

    def test_no_fate(self):
        self.refuses_paper((0, 3), ("left", 2), ("", 2), ("Kept", 2), ("kept",), ("kept", 2, 0), (), "kept", 2,
                           ("kept", "2"))
        # What is no get is not again of anything.
        self.refuses_paper((0, 2), ("again", 0), ("again", 1))
        self.refuses_paper((0, 0), ("again", 0), ("kept", 1), ("kept", -1))


class Again(Looking):
    """Point 16: gets that are again of one ahead."""

    def again(self, *rows):
        """Block and paper of rows whose last item is a get, into box 7, that is again of the first item."""
        plain = lead(0, rows_of(*rows, "halt 0 0 0"))
        first = plain[2].index(("item", 0)) if ("item", 0) in plain[2] else 0
        last = plain[2].index(("item", len(plain[3]) - 1))
        self.assertEqual(plain[4][2][7], last)
        block = changed(changed(plain, (3,), plain[3][:-1]), (4, 2, 7), first)
        fates, likes = keeping_all(plain)
        # The node of the item that is left out may not stand in the table.
        block = changed(block, (2, last), ("no",))
        numbers = plain[3][-1][2]
        likes = changed(likes, (last,), (first, ()))
        return (block, (fates[:-1] + (("again", 0),), likes), numbers)

    def merged(self, *rows):
        """The same where the num of the last get is taken for the first num of the table."""
        block, (fates, likes), (x, y) = self.again(*rows)
        first = [node[0] for node in block[2]].index("num")
        return (block, (fates, changed(likes, (y,), (first, ()))))

    def test_nothing_between(self):
        self.lets(*self.merged("get 1 0 4", "get 7 0 4"))

    def test_others_between(self):
        for row in ("tell 1 0 0", "hear 2 0 0", "div 2 1 3", "get 2 0 5", "get 2 3 4", "put 1 0 1", "mul 1 1 1"):
            self.lets(*self.merged("get 1 0 4", row, "get 7 0 4"))

    def test_over_a_set(self):
        for rows in (("set 3 0 4",), ("set 1 0 4",), ("set 3 5 9",), ("tell 0 0 0", "set 3 0 4"),
                     ("set 3 0 4", "tell 0 0 0")):
            self.refuses(*self.merged("get 1 0 4", *rows, "get 7 0 4"))

    def test_over_a_right(self):
        # A right ends a block, so these are not the rows of one.
        self.refuses(*self.merged("get 1 0 4", "right 3 0 0", "get 7 0 4"))

    def test_a_set_ahead_of_both_or_behind_both(self):
        rows = rows_of("set 3 0 4", "get 1 0 4", "get 2 0 4", "set 3 0 4", "halt 0 0 0")
        plain = lead(0, rows)
        self.assertEqual(plain[2][11:], (("num", 4), ("num", 4), ("item", 1), ("num", 4), ("item", 2), ("num", 4)))
        boxes = (0, 13, 13, 3, 4, 5, 6, 7)
        things = plain[3][:2] + (("set", 3, (0, 11, 3), boxes, MARKS),)
        block = (0, rows, plain[2][:14], things, ("halt", (), boxes, MARKS))
        likes = FIRST_LIKES + ((11, ()), (12, ()), (13, ()), (12, ()), (13, ()), (11, ()))
        self.lets(block, ((("kept", 0), ("kept", 1), ("again", 1), ("kept", 2)), likes))

    def test_of_a_get_of_other_numbers(self):
        self.refuses(*self.again("get 1 0 4", "get 7 0 4")[:2])
        self.refuses(*self.merged("get 1 0 4", "get 7 0 5"))
        self.refuses(*self.merged("get 1 0 4", "get 7 2 4"))
        self.refuses(*self.merged("get 0 0 4", "get 7 0 4"))
        self.refuses(*self.again("get 1 0 4", "get 7 0 5")[:2])

    def test_x_like_x_and_y_like_y(self):
        # Both ask for cell 9, by 5 and 4, and by 4 and 5.
        rows = rows_of("put 0 0 5", "get 1 0 4", "put 0 0 4", "get 7 0 5", "halt 0 0 0")
        nodes = FIRST + (("num", 5), ("num", 4), ("item", 0))
        block = (0, rows, nodes, (("get", 1, (11, 12), (11, 1, 2, 3, 4, 5, 6, 7), MARKS),),
                 ("halt", (), (12, 13, 2, 3, 4, 5, 6, 13), MARKS))
        likes = FIRST_LIKES + ((11, ()), (12, ()), (13, ()), (12, ()), (11, ()), (13, ()))
        self.refuses(block, ((("kept", 0), ("again", 0)), likes))
        # Where they come in one order it is let by.
        rows = rows_of("put 0 0 5", "get 1 0 4", "put 0 0 5", "get 7 0 4", "halt 0 0 0")
        block = (0, rows) + changed(block, (4, 2, 0), 11)[2:]
        likes = likes[:14] + ((11, ()), (12, ()), (13, ()))
        self.lets(block, ((("kept", 0), ("again", 0)), likes))

    def test_of_none(self):
        block, (fates, likes) = self.merged("get 1 0 4", "tell 1 0 0", "get 7 0 4")
        self.lets(block, (fates, likes))
        for i in (1, 2, 3, 4, 60, -1, -2, -3, -4, "0", (), ""):
            self.refuses(block, (changed(fates, (2, 1), i), likes))
        for fate in (("again",), ("again", 0, 0), ("Again", 0), ("kept", 0), ("kept", 2), ("", 0)):
            self.refuses(block, (changed(fates, (2,), fate), likes))

    def test_a_get_and_a_div_of_the_same_numbers(self):
        # Box 3 holds 4: so all that could tell them apart is the word.
        for words in (("div", "get"), ("get", "div"), ("get", "get")):
            rows = {"get": "get 1 0 4", "div": "div 1 0 3"}
            plain = lead(0, rows_of("put 3 0 4", rows[words[0]], rows[words[1]], "halt 0 0 0"))
            block, (fates, likes) = plain, keeping_all(plain)
            first, last = plain[2].index(("item", 0)), plain[2].index(("item", 1))
            for number, node in enumerate(plain[2]):
                if node == ("num", 4):
                    likes = changed(likes, (number,), (11, ()))
                elif node[0] in ("nought", "high") and node[1] == last:
                    block = changed(block, (2, number), (node[0], first))
            block = changed(changed(block, (3,), ((words[0], 1, (0, 11)) + plain[3][0][3:],)), (2, last), ("no",))
            paper = (fates[:1] + (("again", 0),), changed(likes, (last,), (first, ())))
            block = changed(block, (4, 2, 1), first)
            if words == ("get", "get"):
                self.lets(block, paper)
            else:
                self.refuses(block, paper)

    def test_of_what_is_no_get(self):
        for row in ("hear 1 0 0", "tell 0 0 0", "set 1 0 4"):
            self.refuses(*self.merged(row, "get 7 0 4"))

    def test_a_div_is_never_again(self):
        rows = rows_of("div 1 0 3", "div 2 0 3", "halt 0 0 0")
        plain = lead(0, rows)
        nodes = FIRST + (("item", 0), ("nought", 11), ("high", 11), ("rest", 0, 3))
        boxes = (0, 11, 2, 3, 4, 5, 6, 7)
        likes = FIRST_LIKES + ((11, ()), (12, ()), (13, ()), (14, ())) * 2
        block = (0, rows, nodes, plain[3][:1], ("halt", (), changed(boxes, (2,), 11), (12, 13, 14)))
        self.refuses(block, ((("kept", 0), ("again", 0)), likes))
        # Both kept: this one is let by.
        nodes += (("item", 1), ("nought", 15), ("high", 15))
        things = plain[3][:1] + (("div", 1, (0, 3), boxes, (12, 13, 14)),)
        block = (0, rows, nodes, things, ("halt", (), changed(boxes, (2,), 15), (16, 17, 14)))
        likes = likes[:15] + ((15, ()), (16, ()), (17, ()), (14, ()))
        self.lets(block, ((("kept", 0), ("kept", 1)), likes))

    def test_its_node_is_the_like_of_the_other_s_node_at_once(self):
        # Another like, one that is to be turned, or a node seen as if it were kept.
        self.refuses_paper((1, 14), (11, ()), (18, ()), (17, ()), (12, (("swap", 0),)), (12, (("zero", 0),)))
        block = changed(changed(BLOCK, (2,), NODES + (("item", 0),)), (4, 2, 2), 19)
        self.refuses(block, changed(PAPER, (1, 14), (19, ())))
        self.refuses(block, PAPER)

    def test_where_the_other_s_node_is_like_none(self):
        rows = rows_of("get 1 0 4", "get 1 0 4", "halt 0 0 0")
        nodes = FIRST + (("num", 4), ("item", 0))
        block = (0, rows, nodes, (("get", 0, (0, 11), BOXES, MARKS),), ("halt", (), (0, 12) + BOXES[2:], MARKS))
        fates = (("kept", 0), ("again", 0))
        likes = FIRST_LIKES + ((11, ()), (12, ()), (11, ()), (12, ()))
        self.lets(block, (fates, likes))
        self.refuses(block, (fates, changed(likes, (12,), None)))
        # The numbers of a get that is again must be like those, not like none.
        self.refuses(block, (fates, changed(likes, (13,), None)))
        self.refuses(block, (fates, changed(changed(likes, (13,), None), (11,), None)))
        # Where nothing hangs on either of both nodes, both may be like none.
        rows = rows_of("get 1 0 4", "get 1 0 4", "put 1 0 4", "halt 0 0 0")
        block = (0, rows, nodes, block[3], ("halt", (), (0, 11) + BOXES[2:], MARKS))
        likes += ((11, ()),)
        for one in (None, (12, ())):
            self.lets(block, (fates, changed(changed(likes, (12,), one), (14,), None)))


class Likes(Looking):
    """Point 16: likes and their steps."""

    def test_none_where_something_kept_hangs_on_it(self):
        for number in range(len(LIKES)):
            self.refuses_paper((1, number), None)
        plain = lead(3, rows_of("add 1 2 3", "go 1 0 0"))
        for number in range(len(plain[2])):
            # Box 1 and the marks are written over, and nothing else is left out.
            paper = changed(keeping_all(plain), (1, number), None)
            if number in (1, 8, 9, 10):
                self.lets(plain, paper)
            else:
                self.refuses(plain, paper)

    def test_none_where_the_made_block_has_none(self):
        plain = lead(0, rows_of("tell 1 0 0"))
        for part, item_part, k in ((2, 3, 5), (3, 4, 2)):
            number = plain[4][part][k]
            block = changed(changed(plain, (4, part, k), None), (3, 0, item_part, k), None)
            self.refuses(plain, changed(keeping_all(plain), (1, number), None))
            self.refuses(block, changed(keeping_all(plain), (1, number), None))

    def test_truths_are_no_numbers(self):
        plain = lead(1, rows_of("tell 1 0 0", "jump 0 0 31"))
        paper = keeping_all(plain)
        self.assertEqual(plain[4][1], (2,))
        self.lets(plain, paper)
        for path in ((0,), (3, 0, 2, 0), (3, 0, 3, 1), (4, 2, 1), (2, 1, 1)):
            self.refuses(changed(plain, path, True), paper)
        self.refuses(changed(plain, (3, 0, 1), False), paper)
        self.refuses(plain, changed(paper, (0, 0, 1), False))
        self.refuses(plain, changed(paper, (1, 1, 0), True))
        self.refuses(BLOCK, changed(PAPER, (1, 16, 1, 0, 1), False))

    def test_j_is_no_node_of_the_made_table(self):
        for number in range(len(LIKES)):
            self.refuses_paper((1, number, 0), -1, 19, 20, 65536, LIKES[number][0] - 19, "", ())

    def test_j_is_another_node(self):
        for number in range(len(LIKES)):
            self.refuses_paper((1, number, 0), *[j for j in range(19) if j != LIKES[number][0]])

    def test_steps_that_do_not_come_to_the_node(self):
        self.refuses_paper((1, 16, 1), (), (("swap", 0),), (("swap", 0), ("swap", 0)))
        self.refuses_paper((1, 19, 1), (), (("swap", 0),))
        # They come to another node of the table.
        self.refuses_paper((1, 16), (13, (("zero", 0),)), (11, (("zero", 0),)))

    def test_steps_that_are_refused(self):
        for rule in RULES + ("", "none"):
            if rule != "zero":
                self.refuses_paper((1, 16, 1, 0, 0), rule)
            if rule != "never":
                self.refuses_paper((1, 19, 1, 0, 0), rule)
            for number in (0, 8, 11, 12, 14, 20):
                self.refuses_paper((1, number, 1), ((rule, 0),))
        for n in (-1, 19, 65536):
            self.refuses_paper((1, 16, 1, 0, 1), n)
            self.refuses_paper((1, 19, 1, 0, 1), n)
        # Steps that turn, and come to the node at the last, but with one between that is refused.
        self.lets(BLOCK, changed(PAPER, (1, 19, 1), (("swap", 0), ("swap", 18), ("never", 5))))
        self.refuses_paper((1, 19, 1), (("swap", 0), ("one", 0), ("swap", 0), ("never", 0)),
                           (("never", 0), ("swap", 0)), (("never", 0), ("never", 0)), (("swap", 0), ("never", 0)))

    def test_steps_that_go_on_behind_a_number(self):
        for rule in RULES:
            self.refuses_paper((1, 16, 1), (("zero", 0), (rule, 0)))
            self.refuses_paper((1, 14, 1), ((rule, 0),))

    def test_a_node_seen_that_is_the_made_node_word_for_word(self):
        plain = lead(0, rows_of("add 1 2 3", "halt 0 0 0"))
        paper = keeping_all(plain)
        for number, node in ((11, ("add", 3, 2)), (14, ("over", 3, 2))):
            block = changed(plain, (2, number), node)
            self.refuses(block, paper)
            self.lets(block, changed(paper, (1, number, 1), (("swap", 0),)))
            self.refuses(block, changed(paper, (1, number, 1), (("swap", 0), ("swap", 0))))
        for node in (("mul", 2, 3), ("sub", 2, 3), ("add", 2, 2), ("add", 2, 4), ("box", 1)):
            self.refuses(changed(plain, (2, 11), node), paper)

    def test_other_forms(self):
        self.refuses_paper((1, 16), (), (12,), (12, (("zero", 0),), ()), 12, "", (12, 0), (12, "zero"),
                           (("zero", 0), 12))
        self.refuses_paper((1, 16, 1, 0), (), ("zero",), ("zero", 0, 0), "zero", 0, (0, "zero"), ("zero", ""),
                           ("zero", ()))

    def test_other_counts(self):
        self.refuses_paper((1,), LIKES[:-1], LIKES[1:], LIKES + (None,), LIKES + ((0, ()),), (), "", 0)
        self.refuses_paper((0,), FATES[:-1], FATES + (("kept", 5),), FATES + (("again", 0),), (), "", 0)
        self.refuses_paper((), (), (FATES,), (FATES, LIKES, ()), (LIKES, FATES), "", 0)


class Tables(Looking):
    """Point 16: place, rows and table."""

    def test_a_place_that_is_no_number(self):
        rows = rows_of("add 1 2 3", "tell 1 0 0", "halt 0 0 0")
        for place in (0, 1, 65535):
            self.lets(lead(place, rows), keeping_all(lead(place, rows)))
        for place in (-1, 65536, 65537, -65536):
            self.refuses(lead(place, rows), keeping_all(lead(place, rows)))
        self.refuses_block((0,), 19, 21, 20 + 65536, 20 - 65536, "20", "", ())

    def test_rows_that_are_not_those_of_a_block(self):
        put = number_of(("put", 0, 0, 1))
        for rows in ((put,), (put,) * 60, (put,) * 59 + (0,), (0,)):
            self.lets(lead(0, rows), keeping_all(lead(0, rows)))
        ends = [number_of((word, 1, 1, 1)) for word in ("halt", "bad", "jump", "when", "go", "right", "back")]
        wrong = [(), (put,) * 61, (put,) * 60 + (0,), (put, put + 65536), (put - 65536, put), (65536,), (-1,)]
        wrong += [(end, put) for end in ends] + [(put, end, end) for end in ends] + [(end,) * 2 for end in ends]
        for rows in wrong:
            self.refuses(lead(0, rows), keeping_all(lead(0, rows)))
        self.refuses_block((1,), (), ROWS[:-1], ROWS + (0,), ROWS[::-1], "", 0)
        for number in range(len(ROWS)):
            self.refuses_block((1, number), 0, 65536, -1, ROWS[number] + 65536, "", ())

    def test_a_node_of_another_form(self):
        # Each of them stands behind the others, where nothing hangs on it.
        for node in ((), ("add",), ("add", 0), ("add", 0, 0, 0), ("nought",), ("nought", 0, 0), ("num",), ("num", 0, 0),
                     ("box",), ("mark", 0, 0), ("item",), ("yes", 0), ("no", 0), ("plus", 0, 0), ("", 0), ("div", 0, 0),
                     ("get", 0, 0), ("Add", 0, 0), (0, 0, 0), "yes", "add", 0, ("num", ""), ("num", "0"), ("num", ()),
                     ("add", "0", 0), ("add", 0, "0"), ("box", ""), ("item", ""), (("add", 0, 0),), ((),)):
            self.refuses_block((2,), NODES + (node,))

    def test_a_number_out_of_its_bounds(self):
        for node in (("num", 65536), ("num", -1), ("box", 8), ("box", -1), ("mark", 3), ("mark", -1),
                     ("num", 100000), ("box", 65535), ("mark", 7)):
            self.refuses_block((2,), NODES + (node,))

    def test_an_item_that_brings_nothing(self):
        # Items 2 and 3 are tell and set; there is no item 5.
        for number in (2, 3, 5, 6, -1, -5, 60):
            self.refuses_block((2,), NODES + (("item", number),))
        rows = rows_of("right 1 0 0")
        plain = lead(0, rows)
        self.refuses(changed(plain, (2,), plain[2] + (("item", 0),)), keeping_all(plain))

    def test_x_or_y_that_is_not_ahead(self):
        for word in ("add", "sub", "mul", "over", "under", "wide", "rest"):
            for number in (19, 20, 21, -1, -19, -20):
                self.refuses_block((2,), NODES + ((word, 0, number), ("num", 0)),
                                   NODES + ((word, number, 0), ("num", 0)))
        for word in ("nought", "high"):
            for number in (19, 20, 21, -1, -19):
                self.refuses_block((2,), NODES + ((word, number), ("num", 0)))

    def test_x_or_y_that_is_a_truth(self):
        truths = NODES + (("over", 0, 0), ("under", 0, 0), ("wide", 0, 0), ("rest", 0, 0), ("yes",))
        self.lets(changed(BLOCK, (2,), truths), PAPER)
        for number in (8, 9, 10, 14, 15, 16, 19, 20, 21, 22, 23):
            for word in ("add", "sub", "mul", "over", "under", "wide", "rest"):
                self.refuses_block((2,), truths + ((word, 0, number),), truths + ((word, number, 0),))
            for word in ("nought", "high"):
                self.refuses_block((2,), truths + ((word, number),))

    def test_other_counts_of_nodes(self):
        self.refuses_block((2,), (), NODES[:-1], NODES[1:], NODES[:18], "", 0)


class ItemsAndExit(Looking):
    """Point 16: kept items and the exit are the plain ones, with likes in the place of nodes."""

    def test_an_item_with_another_word(self):
        for number, item in enumerate(ITEMS):
            words = ("get", "set", "div", "tell", "hear", "right", "", "Get", "halt")
            self.refuses_block((3, number, 0), *[word for word in words if word != item[0]])

    def test_another_at(self):
        for number, item in enumerate(ITEMS):
            self.refuses_block((3, number, 1), item[1] + 1, item[1] - 1, -1, 9, "", ())

    def test_another_node(self):
        for number, item in enumerate(ITEMS):
            for part in (2, 3, 4):
                for k in range(len(item[part])):
                    others = [node for node in range(-1, 20) if node != item[part][k]]
                    self.refuses_block((3, number, part, k), *others, "", None, ())

    def test_other_counts_in_an_item(self):
        for number, item in enumerate(ITEMS):
            for part in (2, 3, 4):
                self.refuses_block((3, number, part), item[part] + (0,), item[part][:-1] or (0,), "", 0)
            self.refuses_block((3, number), item[:-1], item + (0,), item[1:], (), "", 0)

    def test_other_counts_of_items(self):
        self.refuses_block((3,), ITEMS[:-1], ITEMS[1:], ITEMS + ITEMS[-1:], ITEMS + ITEMS[:1], (), ITEMS[::-1], "", 0)

    def test_an_exit_with_another_word(self):
        self.refuses_block((4, 0), "on", "go", "halt", "bad", "back", "", "When", 0)
        for word in ("halt", "bad", "back"):
            plain = lead(0, rows_of(word + " 0 0 0"))
            self.lets(plain, keeping_all(plain))
            for other in ("halt", "bad", "back", "on", "go", "when"):
                if other != word:
                    self.refuses(changed(plain, (4, 0), other), keeping_all(plain))
        plain = lead(0, rows_of("go 6 0 0"))
        self.refuses(changed(plain, (4, 0), "on"), keeping_all(plain))

    def test_an_exit_with_other_places(self):
        self.refuses_block((4, 1), (14, 29, 37), (14, 37, 30), (14, 38, 29), (14, 37 + 65536, 29), (14, 37, 29 - 65536),
                           (14, 37, 37), (14, 29, 29))
        plain = lead(0, rows_of("jump 0 0 40"))
        for place in (0, 1, 8, 10, 65545, -65527, ""):
            self.refuses(changed(plain, (4, 1), (place,)), keeping_all(plain))

    def test_an_exit_with_another_node(self):
        self.refuses_block((4, 1, 0), *[node for node in range(-1, 20) if node != 14], "", None)
        for part in (2, 3):
            for k in range(len(EXIT[part])):
                others = [node for node in range(-1, 20) if node != EXIT[part][k]]
                self.refuses_block((4, part, k), *others, "", None, ())
        plain = lead(0, rows_of("go 6 0 0"))
        self.lets(plain, keeping_all(plain))
        for node in (0, 5, 7, 8, -5, 11):
            self.refuses(changed(plain, (4, 1, 0), node), keeping_all(plain))

    def test_places_are_not_taken_for_nodes(self):
        # The places are the numbers of nodes that are like others.
        rows = rows_of("put 0 0 5", "put 1 0 5", "when 0 0 42")
        block = (0, rows, FIRST + (("num", 5),), (), ("when", (8, 13, 3), (11, 11, 2, 3, 4, 5, 6, 7), MARKS))
        likes = FIRST_LIKES + ((11, ()), (11, ()))
        self.lets(block, ((), likes))
        rows = rows_of("put 0 0 5", "put 1 0 5", "jump 0 0 41")
        block = (0, rows, FIRST + (("num", 5),), (), ("on", (12,), (11, 11, 2, 3, 4, 5, 6, 7), MARKS))
        self.lets(block, ((), likes))
        self.refuses(changed(block, (4, 1), (11,)), ((), likes))

    def test_other_counts_in_the_exit(self):
        for part in (1, 2, 3):
            self.refuses_block((4, part), EXIT[part] + (0,), EXIT[part][:-1], (), "", 0)
        self.refuses_block((4,), EXIT[:-1], EXIT + ((),), (), "", 0)
        for word in ("halt", "bad", "back"):
            plain = lead(0, rows_of(word + " 0 0 0"))
            self.refuses(changed(plain, (4, 1), (0,)), keeping_all(plain))

    def test_other_counts_of_all(self):
        self.refuses_block((), BLOCK[:-1], BLOCK + (0,), BLOCK[1:], (), "", 0)


class ManyWays(Looking):
    """Points 3 and 16: whoever made it, what is let by does what its rows do."""

    def made(self, seed):
        numbers = mixed(seed + 300, 3)
        place = (numbers[0] % 40, 65536 - numbers[0] % 8)[numbers[1] % 2] % 65536
        rows = close_rows(seed, seed % 14) if seed % 4 else some_rows(seed, 1 + seed % 14)
        return Maker(place, rows, seed).make()

    def test_blocks_made_in_many_ways(self):
        fates = {}
        rules = {}
        for seed in range(400):
            block, paper = self.made(seed)
            with self.subTest(seed=seed):
                self.assertIs(lets_by(block, paper), True)
                self.does_the_same(block, range(seed, seed + 12))
            for like in paper[1]:
                for step in like[1] if like is not None else (("none", 0),):
                    rules[step[0]] = True
            for fate in paper[0]:
                fates[fate[0]] = True
        self.assertEqual(sorted(fates), ["again", "kept"])
        self.assertEqual(sorted(rules), sorted(RULES + ("none",)))

    def test_one_part_changed(self):
        # Most are not let by then; those that are do what their rows do all the same.
        let = 0
        for seed in range(400):
            whole = self.made(seed)
            paths = paths_of(whole)
            for number in mixed(seed + 700, 12):
                other = changed(whole, paths[number % len(paths)], lambda part: self.another(part, number))
                if other == whole:
                    continue
                with self.subTest(seed=seed, number=number):
                    is_let = self.look(other)
                let += is_let
        self.assertGreater(let, 20)

    def look(self, whole):
        if not isinstance(whole, tuple) or len(whole) != 2:
            return False
        told = lets_by(*whole)
        self.assertIn(told, (True, False))
        if told:
            self.does_the_same(whole[0], range(12))
        return told

    def another(self, part, number):
        """Another part in the place of this one."""
        if isinstance(part, int):
            return (part + 1, part - 1, number % 20, number % 8, 0, "")[number // 64 % 6]
        if isinstance(part, str):
            words = ("add", "sub", "mul", "get", "set", "kept", "again", "swap", "zero", "on", "num", "over", "under",
                     "")
            return words[number // 64 % len(words)]
        if part is None:
            return (number % 12, ())
        k = number // 64 % (len(part) + 1)
        return (part[:k] + part[k + 1:], part[:k] + part[k:k + 1] * 2 + part[k + 1:], part[::-1], (), None)[number % 5]


if __name__ == "__main__":
    unittest.main()
