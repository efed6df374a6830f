"""Points 2, 3 and 17: asitruns.middle.shorten."""

import unittest

from asitruns.errors import NoTurning
from asitruns.middle.done import do_block
from asitruns.middle.lead import lead
from asitruns.middle.looker import lets_by
from asitruns.middle.nodes import under
from asitruns.middle.rules import turned
from asitruns.middle.shorten import shorten
from helper import FIRST, WORDS, Same, close_rows, mixed, row_by_row, rows_of, some_rows, some_state

PLAINER = ("subnum", "zero", "one", "nil", "self", "count", "sure", "never")


def alike(paper):
    """The made node of each plain node, None where it has none."""
    return [like and like[0] for like in paper[1]]


def turns(nodes, node, rule):
    """Whether there is a step of the rule for the node, with whatever n, also one that is put in."""
    for n in range(len(nodes)):
        try:
            turned(nodes, node, (rule, n))
        except NoTurning:
            continue
        return True
    return False


class Shortened(Same):

    def holds(self, place, rows):
        """All that point 17 asks for, of one block; what is told is given back."""
        block, paper = shorten(place, rows)
        self.assertIs(lets_by(block, paper), True)
        self.assertEqual(block[:2], (place, rows))
        self.fates_are_due(lead(place, rows), paper)
        self.nodes_are_plain(block[2])
        self.item_nodes_come_late(block)
        return (block, paper)

    def fates_are_due(self, plain, paper):
        made = alike(paper)
        gets = []
        kept = 0
        for (word, at, numbers, boxes, marks), fate in zip(plain[3], paper[0], strict=True):
            likes = [made[number] for number in numbers]
            if word == "get" and likes in gets:
                self.assertEqual(fate[0], "again", (at, plain[1]))
            else:
                self.assertEqual(fate, ("kept", kept), (at, plain[1]))
                kept += 1
            if word == "get":
                gets.append(likes)
            elif word in ("set", "right"):
                gets = []

    def nodes_are_plain(self, nodes):
        self.assertEqual(len(set(nodes)), len(nodes))
        # A node put in for n can only be asked for by subnum; all that it may be asked for are put in at once.
        more = nodes + tuple([("num", -node[1] % 65536) for node in nodes if node[0] == "num"])
        for node in nodes:
            for rule in PLAINER:
                if under(node):
                    self.assertFalse(turns(more, node, rule), (node, rule))

    def item_nodes_come_late(self, block):
        for number, node in enumerate(block[2]):
            if node[0] == "item":
                for word, at, numbers, boxes, marks in block[3][:node[1] + 1]:
                    self.assertGreater(number, max(numbers + boxes + marks))

    def does_the_same(self, place, rows, seeds):
        block = shorten(place, rows)[0]
        plain = lead(place, rows)
        for seed in seeds:
            state = some_state(seed)
            given = mixed(seed + 5, seed % 4)
            watched = ((), (0,), (1, 3), (0, 1, 2, 3))[seed // 3 % 4]
            told = do_block(block, state, given, watched)
            self.same(told, do_block(plain, state, given, watched))
            self.same(told, row_by_row(place, rows, state, given, watched))


class SmallBlocks(Shortened):

    def test_one_row_of_each_word(self):
        for word in WORDS:
            for numbers in ("0 0 0", "1 2 3", "3 3 3", "7 6 63", "2 1 9"):
                with self.subTest(word=word, numbers=numbers):
                    for place in (0, 20, 65534, 65535):
                        rows = rows_of(f"{word} {numbers}")
                        self.holds(place, rows)
                        self.does_the_same(place, rows, range(6))

    def test_a_whole_answer(self):
        # Nodes: num 4, item 0, then none of the second get, no new num 4.
        rows = rows_of("get 1 0 4", "get 2 0 4", "tell 2 0 0")
        boxes = (0, 12, 12, 3, 4, 5, 6, 7)
        block = (7, rows, FIRST + (("num", 4), ("item", 0)),
                 (("get", 0, (0, 11), (0, 1, 2, 3, 4, 5, 6, 7), (8, 9, 10)), ("tell", 2, (12,), boxes, (8, 9, 10))),
                 ("on", (10,), boxes, (8, 9, 10)))
        paper = ((("kept", 0), ("again", 0), ("kept", 1)),
                 tuple([(k, ()) for k in range(11)]) + ((11, ()), (12, ()), (11, ()), (12, ())))
        self.same(shorten(7, rows), (block, paper))

    def test_again_of_a_get_that_is_again(self):
        rows = rows_of("get 1 0 4", "get 2 0 4", "get 3 0 4")
        block, paper = self.holds(0, rows)
        self.assertEqual([fate[0] for fate in paper[0]], ["kept", "again", "again"])
        self.assertEqual(len(block[3]), 1)
        self.assertEqual(len({block[4][2][k] for k in (1, 2, 3)}), 1)

    def test_through_what_a_get_again_brings(self):
        # The second pair of gets has the first one's numbers because box 1 and box 2 are like.
        rows = rows_of("get 1 0 4", "get 2 0 4", "get 3 1 2", "get 4 2 2", "tell 4 0 0")
        block, paper = self.holds(0, rows)
        self.assertEqual([fate[0] for fate in paper[0]], ["kept", "again", "kept", "again", "kept"])

    def test_no_again_behind_a_set(self):
        rows = rows_of("get 1 0 4", "set 7 6 0", "get 2 0 4", "get 3 0 4", "tell 1 0 0")
        paper = self.holds(0, rows)[1]
        self.assertEqual([fate[0] for fate in paper[0]], ["kept", "kept", "kept", "again", "kept"])
        self.assertEqual(paper[0][3], ("again", 2))

    def test_again_behind_tell_hear_and_div(self):
        rows = rows_of("get 1 0 4", "tell 1 0 0", "hear 5 0 0", "div 6 1 2", "get 2 0 4")
        paper = self.holds(0, rows)[1]
        self.assertEqual([fate[0] for fate in paper[0]], ["kept", "kept", "kept", "kept", "again"])

    def test_no_again_of_other_numbers(self):
        for second in ("get 2 0 5", "get 2 3 4", "get 2 1 4"):
            paper = self.holds(0, rows_of("get 1 0 4", second))[1]
            self.assertEqual([fate[0] for fate in paper[0]], ["kept", "kept"])

    def test_again_of_an_address_that_was_reckoned(self):
        # Box 3 is 0, so box 1 added with it is box 1; so is box 1 less 0, and times 1.
        for row in ("add 1 1 3", "add 1 3 1", "sub 1 1 3", "mul 1 1 4", "mul 1 4 1"):
            rows = rows_of("put 3 0 0", "put 4 0 1", "get 5 1 2", row, "get 6 1 2", "tell 6 0 0")
            paper = self.holds(0, rows)[1]
            self.assertEqual([fate[0] for fate in paper[0]], ["kept", "again", "kept"], row)

    def test_sums_and_products_in_either_order(self):
        for word in ("add", "mul"):
            block = self.holds(0, rows_of(f"{word} 1 2 3", f"{word} 4 3 2"))[0]
            self.assertEqual(block[4][2][1], block[4][2][4])
        block = self.holds(0, rows_of("sub 1 2 3", "sub 4 3 2"))[0]
        self.assertNotEqual(block[4][2][1], block[4][2][4])

    def test_rows_that_reckon_with_numbers_known(self):
        # What box 1 becomes, and the marks.
        cases = (
            (("put 2 0 5", "put 3 0 7", "add 1 2 3"), ("num", 12), ("no", "no", "no")),
            (("put 2 0 5", "put 3 0 7", "sub 1 2 3"), ("num", 65534), ("no", "yes", "yes")),
            (("put 2 0 5", "put 3 0 7", "mul 1 2 3"), ("num", 35), ("no", "no", "no")),
            (("put 2 0 0", "put 3 0 7", "mul 1 4 2"), ("num", 0), ("yes", "no", "no")),
            (("put 2 0 0", "put 3 0 7", "mul 1 2 4"), ("num", 0), ("yes", "no", "no")),
            (("put 2 0 5", "sub 1 2 2"), ("num", 0), ("yes", "no", "no")),
            (("sub 1 4 4",), ("num", 0), ("yes", "no", "no")),
            (("put 2 0 0", "add 1 4 2"), ("box", 4), ("nought", "high", "no")),
            (("put 2 0 0", "add 1 2 4"), ("box", 4), ("nought", "high", "no")),
            (("put 2 0 0", "sub 1 4 2"), ("box", 4), ("nought", "high", "no")),
            (("put 2 0 1", "mul 1 4 2"), ("box", 4), ("nought", "high", "no")),
            (("put 2 0 1", "mul 1 2 4"), ("box", 4), ("nought", "high", "no")),
            (("put 2 0 1", "hear 3 0 0", "mul 1 2 3"), ("item", 0), ("nought", "high", "no")),
            (("put 2 0 0", "hear 3 0 0", "add 1 2 3"), ("item", 0), ("nought", "high", "no")),
        )
        for rows, box, marks in cases:
            with self.subTest(rows=rows):
                block = self.holds(0, rows_of(*rows))[0]
                self.assertEqual(block[2][block[4][2][1]], box)
                self.assertEqual(tuple([block[2][number][0] for number in block[4][3]]), marks)
                self.does_the_same(0, rows_of(*rows), range(8))

    def test_less_a_number(self):
        block = self.holds(0, rows_of("put 2 0 5", "sub 1 4 2"))[0]
        word, x, y = block[2][block[4][2][1]]
        self.assertEqual((word, block[2][x], block[2][y]), ("add", ("box", 4), ("num", 65531)))

    def test_div_by_a_number(self):
        for number, word in ((0, "no"), (1, "no"), (2, "rest")):
            rows = rows_of(f"put 2 0 {number}", "div 1 4 2")
            block = self.holds(0, rows)[0]
            self.assertEqual(block[2][block[4][3][2]][0], word)
            self.does_the_same(0, rows, range(8))


class ManyBlocks(Shortened):

    def test_one_to_sixty_rows(self):
        fates = {}
        for seed in range(120):
            many = 1 + seed % 60
            rows = close_rows(seed, many - 1) if seed % 3 else some_rows(seed, many)
            place = (seed, 65536 - 1 - seed % 70)[seed // 3 % 2]
            with self.subTest(seed=seed):
                paper = self.holds(place, rows)[1]
                self.does_the_same(place, rows, range(seed, seed + 6))
            for fate in paper[0]:
                fates[fate[0]] = fates.get(fate[0], 0) + 1
        self.assertGreater(min(fates["kept"], fates["again"]), 150)

    def test_places_about_the_last(self):
        for place in (65500, 65533, 65534, 65535):
            for last in ("halt", "bad", "jump", "when", "go", "right", "back", "tell"):
                for many in (1, 2, 3, 40):
                    rows = rows_of(*["tell 1 0 0"] * (many - 1) + [last + " 0 1 40"])
                    with self.subTest(place=place, last=last, many=many):
                        self.holds(place, rows)
                        self.does_the_same(place, rows, range(3))

    def test_told_again(self):
        rows = some_rows(3, 20)
        first = shorten(5, rows)
        shorten(5, some_rows(4, 20))
        self.same(shorten(5, rows), first)
        self.assertEqual(rows, some_rows(3, 20))
        hash(first)


if __name__ == "__main__":
    unittest.main()
