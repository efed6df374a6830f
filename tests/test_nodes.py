"""Points 2 and 11: asitruns.middle.nodes."""

import copy
import unittest

from asitruns.middle.nodes import under, worths
from helper import Same

BOXES = (10, 20, 30, 40, 50, 60, 70, 65535)
MARKS = (True, False, True)

# For each word of two numbers: x, y, and what comes.
PAIRS = {
    "add": ((0, 0, 0), (3, 4, 7), (65534, 1, 65535), (65535, 1, 0), (1, 65535, 0), (65535, 65535, 65534)),
    "sub": ((0, 0, 0), (7, 4, 3), (4, 7, 65533), (0, 1, 65535), (0, 65535, 1), (65535, 65535, 0), (65535, 0, 65535)),
    "mul": ((0, 65535, 0), (3, 4, 12), (257, 255, 65535), (256, 256, 0), (65535, 65535, 1), (65535, 2, 65534)),
    "over": ((0, 0, False), (65534, 1, False), (65535, 0, False), (65535, 1, True), (1, 65535, True),
             (32768, 32768, True), (32768, 32767, False), (65535, 65535, True)),
    "under": ((0, 0, False), (0, 1, True), (1, 0, False), (65534, 65535, True), (65535, 65535, False),
              (65535, 0, False), (0, 65535, True)),
    "wide": ((0, 65535, False), (257, 255, False), (256, 256, True), (256, 255, False), (65535, 1, False),
             (2, 32768, True), (32767, 2, False), (65535, 65535, True)),
    "rest": ((0, 0, False), (5, 0, False), (65535, 0, False), (0, 5, False), (6, 3, False), (7, 3, True),
             (2, 3, True), (65535, 65535, False), (65534, 65535, True), (65535, 1, False)),
}
SINGLES = {
    "nought": ((0, True), (1, False), (32768, False), (65535, False)),
    "high": ((0, False), (1, False), (32767, False), (32768, True), (65535, True)),
}


class Words(Same):
    """Point 11: what a node of each word is worth."""

    def test_num(self):
        self.same(worths((("num", 0), ("num", 1), ("num", 65535)), BOXES, MARKS, []), [0, 1, 65535])

    def test_box(self):
        self.same(worths(tuple([("box", k) for k in range(8)]), BOXES, MARKS, []), list(BOXES))

    def test_mark(self):
        for marks in ((True, False, True), (False, True, False), (False, False, True)):
            self.same(worths((("mark", 0), ("mark", 1), ("mark", 2)), BOXES, marks, []), list(marks))

    def test_item(self):
        self.same(worths((("item", 0), ("item", 1), ("item", 2)), BOXES, MARKS, [7, 0, 65535]), [7, 0, 65535])

    def test_yes_and_no(self):
        self.same(worths((("yes",), ("no",), ("yes",)), BOXES, MARKS, []), [True, False, True])

    def test_words_of_two(self):
        for word, cases in PAIRS.items():
            for x, y, asked in cases:
                nodes = (("num", x), ("num", y), (word, 0, 1))
                with self.subTest(word=word, x=x, y=y):
                    self.same(worths(nodes, BOXES, MARKS, []), [x, y, asked])

    def test_words_of_two_the_other_way_round(self):
        nodes = (("num", 9), ("num", 2)) + tuple([(word, 1, 0) for word in PAIRS])
        self.same(worths(nodes, BOXES, MARKS, []), [9, 2, 11, 65529, 18, False, True, False, True])

    def test_words_of_two_that_are_one(self):
        nodes = (("num", 300),) + tuple([(word, 0, 0) for word in PAIRS])
        self.same(worths(nodes, BOXES, MARKS, []), [300, 600, 0, 90000 - 65536, False, False, True, False])

    def test_words_of_one(self):
        for word, cases in SINGLES.items():
            for x, asked in cases:
                with self.subTest(word=word, x=x):
                    self.same(worths((("num", x), (word, 0)), BOXES, MARKS, []), [x, asked])

    def test_a_table_in_which_each_hangs_on_the_one_ahead(self):
        nodes = (("box", 7), ("add", 0, 0), ("sub", 1, 0), ("mul", 2, 2), ("nought", 3), ("high", 2), ("over", 2, 3))
        self.same(worths(nodes, BOXES, MARKS, []), [65535, 65534, 65535, 1, False, True, True])

    def test_no_nodes(self):
        self.same(worths((), BOXES, MARKS, []), [])

    def test_a_great_table(self):
        nodes = (("num", 1),) + tuple([("add", k, k) for k in range(300)])
        asked = [2 ** k % 65536 for k in range(301)]
        self.same(worths(nodes, BOXES, MARKS, []), asked)


class NotCome(Same):
    """Point 11: nodes that hang on what no item has brought."""

    def hang(self, item, brought):
        """Nodes of each word that hang on the item are None, and those that hang on these; the last one is not."""
        nodes = [("item", item), ("num", 5)]
        for word in PAIRS:
            nodes += [(word, 0, 1), (word, 1, 0), (word, 0, 0)]
        nodes += [("nought", 0), ("high", 0), ("add", 2, 1), ("nought", 2), ("add", 1, 1)]
        asked = [None, 5] + [None] * (len(nodes) - 3) + [10]
        with self.subTest(item=item, brought=brought):
            self.same(worths(tuple(nodes), BOXES, MARKS, brought), asked)

    def test_an_item_that_brings_nothing(self):
        for item, brought in ((0, [None]), (1, [4, None]), (0, [None, 4])):
            self.hang(item, brought)

    def test_an_item_that_has_not_come_yet(self):
        for item, brought in ((0, []), (1, [4]), (9, [4, None, 3])):
            self.hang(item, brought)

    def test_one_that_came_as_nought_is_no_none(self):
        self.same(worths((("item", 0), ("add", 0, 0), ("nought", 0), ("rest", 0, 0)), BOXES, MARKS, [0]),
                  [0, 0, True, False])

    def test_only_those_that_hang_on_it(self):
        nodes = (("item", 0), ("item", 1), ("add", 0, 0), ("add", 0, 1), ("nought", 3), ("high", 2), ("yes",))
        self.same(worths(nodes, BOXES, MARKS, [40000, None]),
                  [40000, None, 14464, None, None, False, True])


class Under(Same):
    """Point 11, and the interface: which nodes a node names."""

    def test_each_word(self):
        for node in (("num", 5), ("box", 5), ("mark", 2), ("item", 5), ("yes",), ("no",)):
            with self.subTest(node=node):
                self.same(under(node), ())
        for word in SINGLES:
            self.same(under((word, 5)), (5,))
        for word in PAIRS:
            with self.subTest(word=word):
                self.same(under((word, 5, 2)), (5, 2))
                self.same(under((word, 2, 5)), (2, 5))
                self.same(under((word, 5, 5)), (5, 5))

    def test_whatever_the_numbers(self):
        for number in (0, 300, 70000, -1):
            self.same(under(("num", number)), ())
            self.same(under(("item", number)), ())
            self.same(under(("nought", number)), (number,))
            self.same(under(("over", number, number + 1)), (number, number + 1))


class Kept(Same):
    """Point 2: what is handed in stays, and the same is told again."""

    def test_lists(self):
        nodes = (("box", 0), ("item", 0), ("add", 0, 1), ("mark", 2))
        brought = [4, None]
        before = copy.deepcopy(brought)
        told = worths(nodes, BOXES, MARKS, brought)
        self.same(told, [10, 4, 14, True])
        self.assertEqual(brought, before)
        told[2] = 99
        brought[0] = 5
        self.same(worths(nodes, BOXES, MARKS, before), [10, 4, 14, True])
        self.assertEqual(told, [10, 4, 99, True])


if __name__ == "__main__":
    unittest.main()
