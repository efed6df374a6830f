"""Points 2 and 15: asitruns.middle.rules, and the refusal NoTurning."""

import unittest

from asitruns.errors import NoTurning
from asitruns.middle.nodes import under, worths
from asitruns.middle.rules import turned
from helper import RULES, Same, mixed

PAIRS = ("add", "sub", "mul", "over", "under", "wide", "rest")
SINGLES = ("nought", "high")
OTHERS = (("num", 0), ("box", 0), ("mark", 0), ("item", 0), ("yes",), ("no",))

# Boxes 0 to 3, then num's, sums, products and others of them.
TABLE = (
    ("box", 0), ("box", 1), ("box", 2), ("box", 3),
    ("num", 0), ("num", 1), ("num", 5), ("num", 65531), ("num", 65535), ("num", 32768), ("num", 0),
    ("add", 0, 1), ("add", 1, 2), ("mul", 0, 1), ("mul", 1, 2), ("sub", 0, 1), ("sub", 1, 2),
    ("add", 1, 1), ("mul", 1, 1), ("mark", 0), ("yes",), ("no",), ("over", 0, 1), ("item", 0),
)
ZERO, ONE, FIVE, LESS_FIVE, LAST, HALF, OTHER_ZERO = 4, 5, 6, 7, 8, 9, 10
ADD01, ADD12, MUL01, MUL12, SUB01, SUB12, ADD11, MUL11 = 11, 12, 13, 14, 15, 16, 17, 18


class Turning(Same):
    """What the tests of point 15 ask again and again."""

    def turns(self, seen, step, asked, nodes=TABLE):
        with self.subTest(seen=seen, step=step):
            self.same(turned(nodes, seen, step), asked)

    def refuses(self, seen, step, nodes=TABLE):
        with self.subTest(seen=seen, step=step):
            self.assertRaises(NoTurning, turned, nodes, seen, step)

    def refuses_words(self, rule, words, x, y, n=0):
        """The rule is told for none of these words."""
        for word in words:
            self.refuses((word, x, y), (rule, n))

    def refuses_others(self, rule, n=0):
        """The rule is told for no node that names none, nor for one that names a single one."""
        for seen in OTHERS:
            self.refuses(seen, (rule, n))
        for word in SINGLES:
            self.refuses((word, 0), (rule, n))


class Swap(Turning):

    def test_turns(self):
        for word in ("add", "mul", "over", "wide"):
            self.turns((word, 0, 1), ("swap", 0), (word, 1, 0))
            self.turns((word, 1, 0), ("swap", 0), (word, 0, 1))
            self.turns((word, 3, 3), ("swap", 0), (word, 3, 3))
            self.turns((word, ZERO, 23), ("swap", 9), (word, 23, ZERO))

    def test_refuses(self):
        self.refuses_words("swap", ("sub", "under", "rest"), 0, 1)
        self.refuses_words("swap", ("sub", "under", "rest"), 0, 0)
        self.refuses_others("swap")


class Group(Turning):

    def test_turns(self):
        self.turns(("add", ADD01, 2), ("group", ADD12), ("add", 0, ADD12))
        self.turns(("mul", MUL01, 2), ("group", MUL12), ("mul", 0, MUL12))
        self.turns(("add", ADD01, 1), ("group", ADD11), ("add", 0, ADD11))
        self.turns(("mul", MUL11, 1), ("group", MUL11), ("mul", 1, MUL11))

    def test_x_is_no_such(self):
        self.refuses(("add", 0, 2), ("group", ADD12))
        self.refuses(("add", MUL01, 2), ("group", ADD12))
        self.refuses(("add", SUB01, 2), ("group", ADD12))
        self.refuses(("mul", ADD01, 2), ("group", MUL12))
        self.refuses(("add", 22, 2), ("group", ADD12))
        self.refuses(("add", ZERO, 2), ("group", ADD12))
        # It is looked for in x alone.
        self.refuses(("add", 2, ADD01), ("group", ADD12))

    def test_n_is_no_such(self):
        self.refuses(("add", ADD01, 2), ("group", 0))
        self.refuses(("add", ADD01, 2), ("group", MUL12))
        self.refuses(("add", ADD01, 2), ("group", SUB12))
        self.refuses(("add", ADD01, 2), ("group", ADD01))
        self.refuses(("add", ADD01, 2), ("group", ADD11))
        self.refuses(("add", ADD01, 3), ("group", ADD12))
        self.refuses(("mul", MUL01, 2), ("group", ADD12))
        self.refuses(("mul", MUL01, 3), ("group", MUL12))
        # Not (y, t), nor (s, y).
        self.refuses(("add", ADD12, 1), ("group", ADD12))
        self.refuses(("add", ADD01, 1), ("group", ADD01))

    def test_y_and_the_nodes_below_are_looked_at_by_their_numbers(self):
        nodes = (("box", 0), ("num", 7), ("num", 7), ("add", 0, 1), ("add", 1, 1), ("add", 2, 1))
        self.turns(("add", 3, 1), ("group", 4), ("add", 0, 4), nodes)
        self.refuses(("add", 3, 2), ("group", 4), nodes)
        self.refuses(("add", 3, 1), ("group", 5), nodes)

    def test_other_words(self):
        self.refuses_words("group", ("sub", "over", "under", "wide", "rest"), ADD01, 2, ADD12)
        self.refuses_words("group", ("sub", "over", "under", "wide", "rest"), MUL01, 2, MUL12)
        # Differences are not grouped, even where all three are such.
        self.refuses(("sub", SUB01, 2), ("group", SUB12))
        self.refuses_others("group", ADD12)


class Ungroup(Turning):

    def test_turns(self):
        self.turns(("add", 0, ADD12), ("ungroup", ADD01), ("add", ADD01, 2))
        self.turns(("mul", 0, MUL12), ("ungroup", MUL01), ("mul", MUL01, 2))
        self.turns(("add", 0, ADD11), ("ungroup", ADD01), ("add", ADD01, 1))
        self.turns(("mul", 1, MUL11), ("ungroup", MUL11), ("mul", MUL11, 1))

    def test_y_is_no_such(self):
        self.refuses(("add", 0, 2), ("ungroup", ADD01))
        self.refuses(("add", 0, MUL12), ("ungroup", ADD01))
        self.refuses(("add", 0, SUB12), ("ungroup", ADD01))
        self.refuses(("mul", 0, ADD12), ("ungroup", MUL01))
        self.refuses(("add", 0, ZERO), ("ungroup", ADD01))
        # It is looked for in y alone.
        self.refuses(("add", ADD12, 0), ("ungroup", ADD01))

    def test_n_is_no_such(self):
        self.refuses(("add", 0, ADD12), ("ungroup", 0))
        self.refuses(("add", 0, ADD12), ("ungroup", MUL01))
        self.refuses(("add", 0, ADD12), ("ungroup", SUB01))
        self.refuses(("add", 0, ADD12), ("ungroup", ADD12))
        self.refuses(("add", 0, ADD12), ("ungroup", ADD11))
        self.refuses(("add", 3, ADD12), ("ungroup", ADD01))
        self.refuses(("mul", 0, MUL12), ("ungroup", ADD01))
        # Not (s, x), nor (x, t).
        self.refuses(("add", 1, ADD01), ("ungroup", ADD01))
        self.refuses(("add", 1, ADD12), ("ungroup", ADD12))

    def test_other_words(self):
        self.refuses_words("ungroup", ("sub", "over", "under", "wide", "rest"), 0, ADD12, ADD01)
        self.refuses_words("ungroup", ("sub", "over", "under", "wide", "rest"), 0, MUL12, MUL01)
        self.refuses(("sub", 0, SUB12), ("ungroup", SUB01))
        self.refuses_others("ungroup", ADD01)


class Subnum(Turning):

    def test_turns(self):
        self.turns(("sub", 0, FIVE), ("subnum", LESS_FIVE), ("add", 0, LESS_FIVE))
        self.turns(("sub", 0, LESS_FIVE), ("subnum", FIVE), ("add", 0, FIVE))
        self.turns(("sub", 3, ONE), ("subnum", LAST), ("add", 3, LAST))
        self.turns(("sub", 0, HALF), ("subnum", HALF), ("add", 0, HALF))
        self.turns(("sub", 0, ZERO), ("subnum", ZERO), ("add", 0, ZERO))
        self.turns(("sub", 0, ZERO), ("subnum", OTHER_ZERO), ("add", 0, OTHER_ZERO))
        self.turns(("sub", FIVE, FIVE), ("subnum", LESS_FIVE), ("add", FIVE, LESS_FIVE))

    def test_y_is_no_num(self):
        self.refuses(("sub", 0, 1), ("subnum", LESS_FIVE))
        self.refuses(("sub", FIVE, 1), ("subnum", LESS_FIVE))
        self.refuses(("sub", 0, ADD01), ("subnum", ZERO))

    def test_n_is_no_such(self):
        for n in (0, ZERO, ONE, FIVE, LAST, HALF, ADD01):
            self.refuses(("sub", 0, FIVE), ("subnum", n))
        # A box is no num, whatever its number is.
        nodes = (("num", 1), ("num", 65535), ("box", 1), ("box", 5), ("item", 1))
        self.turns(("sub", 0, 1), ("subnum", 0), ("add", 0, 0), nodes)
        self.refuses(("sub", 0, 1), ("subnum", 2), nodes)
        self.refuses(("sub", 0, 1), ("subnum", 4), nodes)
        self.refuses(("sub", 0, 2), ("subnum", 1), nodes)

    def test_other_words(self):
        self.refuses_words("subnum", ("add", "mul", "over", "under", "wide", "rest"), 0, FIVE, LESS_FIVE)
        self.refuses_others("subnum", LESS_FIVE)


class ToNumbers(Turning):
    """zero, one and nil."""

    def test_zero(self):
        self.turns(("add", 0, ZERO), ("zero", 0), 0)
        self.turns(("add", 3, OTHER_ZERO), ("zero", 5), 3)
        self.turns(("add", ZERO, ZERO), ("zero", 0), ZERO)
        self.turns(("add", FIVE, ZERO), ("zero", 0), FIVE)

    def test_zero_refuses(self):
        self.refuses(("add", ZERO, 0), ("zero", 0))
        for y in (0, ONE, LAST, ADD01, 19, 21):
            self.refuses(("add", 1, y), ("zero", 0))
        # n is not looked at for y.
        self.refuses(("add", 0, 1), ("zero", ZERO))
        self.refuses_words("zero", ("sub", "mul", "over", "under", "wide", "rest"), 0, ZERO)
        self.refuses_others("zero")

    def test_one(self):
        self.turns(("mul", 0, ONE), ("one", 0), 0)
        self.turns(("mul", 3, ONE), ("one", 5), 3)
        self.turns(("mul", ONE, ONE), ("one", 0), ONE)
        self.turns(("mul", ZERO, ONE), ("one", 0), ZERO)

    def test_one_refuses(self):
        self.refuses(("mul", ONE, 0), ("one", 0))
        for y in (0, 1, ZERO, LAST, ADD01, 20):
            self.refuses(("mul", 2, y), ("one", 0))
        self.refuses_words("one", ("add", "sub", "over", "under", "wide", "rest"), 0, ONE)
        self.refuses_others("one")

    def test_nil(self):
        self.turns(("mul", 0, ZERO), ("nil", 0), ZERO)
        self.turns(("mul", 3, OTHER_ZERO), ("nil", 5), OTHER_ZERO)
        self.turns(("mul", ZERO, OTHER_ZERO), ("nil", 0), OTHER_ZERO)

    def test_nil_refuses(self):
        self.refuses(("mul", ZERO, 0), ("nil", 0))
        for y in (0, ONE, LAST, ADD01, 21):
            self.refuses(("mul", 1, y), ("nil", 0))
        self.refuses_words("nil", ("add", "sub", "over", "under", "wide", "rest"), 0, ZERO)
        self.refuses_others("nil")


class Itself(Turning):
    """self."""

    def test_turns(self):
        for x in (0, 3, ZERO, FIVE, ADD01, 23):
            self.turns(("sub", x, x), ("self", 0), ("num", 0))
        # Also where the table has no num.
        self.turns(("sub", 0, 0), ("self", 0), ("num", 0), (("box", 0),))

    def test_refuses(self):
        self.refuses(("sub", 0, 1), ("self", 0))
        # Two nodes that are the same word for word are two.
        self.refuses(("sub", ZERO, OTHER_ZERO), ("self", 0))
        self.refuses_words("self", ("add", "mul", "over", "under", "wide", "rest"), 0, 0)
        self.refuses_others("self")


class Count(Turning):

    def test_turns(self):
        for word, x, y, asked in (
                ("add", FIVE, ONE, 6), ("add", LAST, ONE, 0), ("add", LAST, LAST, 65534), ("add", ZERO, ZERO, 0),
                ("add", HALF, HALF, 0), ("sub", FIVE, ONE, 4), ("sub", ONE, FIVE, 65532), ("sub", ZERO, ONE, 65535),
                ("sub", FIVE, FIVE, 0), ("mul", FIVE, FIVE, 25), ("mul", LAST, LAST, 1), ("mul", HALF, FIVE, 32768),
                ("mul", HALF, HALF, 0), ("mul", ZERO, LAST, 0)):
            self.turns((word, x, y), ("count", 0), ("num", asked))

    def test_refuses(self):
        for word in ("add", "sub", "mul"):
            for x, y in ((0, FIVE), (FIVE, 0), (0, 0), (FIVE, ADD01), (FIVE, 23), (21, ZERO)):
                self.refuses((word, x, y), ("count", FIVE))
        self.refuses_words("count", ("over", "under", "wide", "rest"), FIVE, ONE)
        self.refuses_others("count")
        for word in SINGLES:
            self.refuses((word, FIVE), ("count", 0))
        self.refuses(("num", 5), ("count", 0))


class Sure(Turning):

    def test_turns(self):
        for seen, asked in (
                (("nought", ZERO), True), (("nought", ONE), False), (("nought", LAST), False),
                (("high", HALF), True), (("high", LAST), True), (("high", FIVE), False), (("high", ZERO), False),
                (("over", LAST, ONE), True), (("over", LESS_FIVE, FIVE), True), (("over", LAST, ZERO), False),
                (("over", LESS_FIVE, ONE), False), (("under", ONE, FIVE), True), (("under", FIVE, ONE), False),
                (("under", FIVE, FIVE), False), (("wide", HALF, FIVE), True), (("wide", HALF, ONE), False),
                (("wide", LAST, ZERO), False), (("rest", FIVE, ONE), False), (("rest", ONE, FIVE), True),
                (("rest", LAST, FIVE), False), (("rest", HALF, FIVE), True), (("rest", FIVE, ZERO), False)):
            self.turns(seen, ("sure", 0), ("yes",) if asked else ("no",))

    def test_refuses(self):
        for word in ("over", "under", "wide", "rest"):
            for x, y in ((0, FIVE), (FIVE, 0), (0, 0), (FIVE, ADD01), (0, ZERO), (ZERO, 0)):
                self.refuses((word, x, y), ("sure", FIVE))
        for word in SINGLES:
            for x in (0, ADD01, 20, 23):
                self.refuses((word, x), ("sure", FIVE))
        self.refuses_words("sure", ("add", "sub", "mul"), FIVE, ONE)
        for seen in OTHERS:
            self.refuses(seen, ("sure", 0))


class Never(Turning):

    def test_turns(self):
        for word, y in (("over", ZERO), ("under", ZERO), ("wide", ZERO), ("wide", ONE), ("rest", ZERO), ("rest", ONE),
                        ("over", OTHER_ZERO)):
            for x in (0, 3, ZERO, LAST, ADD01):
                self.turns((word, x, y), ("never", 0), ("no",))
        for x in (0, 3, FIVE, ADD01):
            self.turns(("under", x, x), ("never", 0), ("no",))

    def test_refuses(self):
        for word, y in (("over", ONE), ("under", ONE), ("over", FIVE), ("under", FIVE), ("wide", FIVE),
                        ("rest", FIVE), ("over", 1), ("under", 1), ("wide", 1), ("rest", 1), ("wide", LAST),
                        ("rest", LAST)):
            self.refuses((word, 0, y), ("never", ZERO))
        for word in ("over", "wide", "rest"):
            self.refuses((word, 0, 0), ("never", 0))
            self.refuses((word, FIVE, FIVE), ("never", 0))
            # It is looked for in y alone.
            self.refuses((word, ZERO, 0), ("never", 0))
        self.refuses(("under", ZERO, 0), ("never", 0))
        self.refuses_words("never", ("add", "sub", "mul"), 0, ZERO)
        self.refuses_words("never", ("add", "sub", "mul"), 0, ONE)
        self.refuses_others("never")
        for word in SINGLES:
            self.refuses((word, ZERO), ("never", 0))


class Refused(Turning):
    """Point 15: n, x, y and the rule."""

    # For each rule a node seen and an n with which it turns.
    GOOD = (
        (("over", 0, 1), ("swap", 0)), (("add", ADD01, 2), ("group", ADD12)), (("add", 0, ADD12), ("ungroup", ADD01)),
        (("sub", 0, FIVE), ("subnum", LESS_FIVE)), (("add", 0, ZERO), ("zero", 0)), (("mul", 0, ONE), ("one", 0)),
        (("mul", 0, ZERO), ("nil", 0)), (("sub", 1, 1), ("self", 0)), (("add", FIVE, ONE), ("count", 0)),
        (("nought", FIVE), ("sure", 0)), (("rest", FIVE, ONE), ("sure", 0)), (("wide", 0, ONE), ("never", 0)),
        (("under", 1, 1), ("never", 0)))
    # Numbers of no node; those below nought are not counted from the table's end.
    NONE = (-1, -len(TABLE), -len(TABLE) - 1, len(TABLE), len(TABLE) + 1, 65536)

    def test_the_good_ones_turn(self):
        self.assertEqual(sorted({step[0] for seen, step in self.GOOD}), sorted(RULES))
        for seen, step in self.GOOD:
            with self.subTest(seen=seen, step=step):
                self.assertIn(type(turned(TABLE, seen, step)), (tuple, int))

    def test_n_is_no_node_of_the_table(self):
        for seen, step in self.GOOD:
            for n in self.NONE:
                self.refuses(seen, (step[0], n))

    def test_n_may_be_any_node_where_it_is_not_asked_for(self):
        for seen, step in self.GOOD:
            if step[0] not in ("group", "ungroup", "subnum"):
                for n in range(len(TABLE)):
                    self.turns(seen, (step[0], n), turned(TABLE, seen, step))

    def test_x_or_y_is_no_node_of_the_table(self):
        for seen, step in self.GOOD:
            for k in range(1, len(seen)):
                for number in self.NONE:
                    self.refuses(seen[:k] + (number,) + seen[k + 1:], step)
        for number in self.NONE:
            self.refuses(("sub", number, number), ("self", 0))
            self.refuses(("under", number, number), ("never", 0))
            self.refuses(("add", number, number), ("swap", 0))

    def test_numbers_below_nought_do_not_count_from_the_end(self):
        # Counted from the end these would be the num's that the rules ask for.
        nodes = (("box", 0), ("num", 65535), ("num", 1), ("num", 0))
        for seen, step in ((("add", 0, -1), ("zero", 0)), (("mul", 0, -1), ("nil", 0)), (("mul", 0, -2), ("one", 0)),
                           (("sub", 0, 2), ("subnum", -3)), (("add", -1, -2), ("count", 0)),
                           (("nought", -1), ("sure", 0)), (("over", 0, -1), ("never", 0))):
            self.refuses(seen, step, nodes)

    def test_no_such_rule(self):
        for rule in ("", "Swap", "swap ", "add", "num", "yes", "zeros", "kept", "no rule"):
            for seen, step in self.GOOD:
                self.refuses(seen, (rule, step[1]))

    def test_an_empty_table(self):
        for rule in RULES:
            for seen in (("add", 0, 0), ("sub", 0, 0), ("under", 0, 0), ("nought", 0), ("num", 0), ("yes",)):
                self.refuses(seen, (rule, 0), ())

    def test_what_is_no_tuple_like_a_node(self):
        for rule in RULES:
            for seen in ((), ("add",), ("add", 0), ("add", 0, ZERO, ZERO), ("nought",), ("nought", ZERO, ZERO),
                         ("plus", 0, ZERO), ("", 0, ZERO), ("sub", 0, 0, 0), ("mul", "0", "1")):
                self.refuses(seen, (rule, 0))

    def test_a_number_ends_the_steps(self):
        for rule in RULES:
            for number in (0, ZERO, ADD01):
                self.refuses(number, (rule, 0))


class Worths(Turning):
    """Point 15: whatever turns, what comes is worth what was."""

    def table(self, seed):
        """A table in no order with num's that the rules ask for, and nodes that group."""
        nodes = [("box", 0), ("box", 1), ("num", 0), ("num", 1), ("num", 65535), ("num", 256), ("num", 0)]
        for number in mixed(seed, 24):
            ahead = [k for k, node in enumerate(nodes) if node[0] in ("box", "num", "add", "sub", "mul")]
            word = ("add", "add", "mul", "mul", "sub", "over")[number % 6]
            nodes.append((word, ahead[number // 8 % len(ahead)], ahead[number // 512 % min(4, len(ahead))]))
        return tuple(nodes)

    def test_tables_in_no_order(self):
        seen_rules = {}
        for seed in range(30):
            nodes = self.table(seed)
            many = [number for number, node in enumerate(nodes) if node[0] != "over"]
            seens = [node for node in nodes if under(node)]
            for number in mixed(seed + 900, 60):
                x, y = many[number % len(many)], many[number // 64 % len(many)]
                seens += [(PAIRS[number % 7], x, y), (SINGLES[number % 2], x)]
            for seen in seens:
                for rule in RULES:
                    self.look(nodes, seen, rule, seen_rules)
        self.assertEqual(sorted(seen_rules), sorted(RULES))

    def look(self, nodes, seen, rule, seen_rules):
        for n in range(len(nodes) if rule in ("group", "ungroup", "subnum") else 1):
            try:
                comes = turned(nodes, seen, (rule, n))
            except NoTurning:
                continue
            seen_rules[rule] = True
            for boxes in ((0, 1), (5, 40000), (65535, 256), (32768, 2)):
                if type(comes) is int:
                    values = worths(nodes + (seen,), boxes, (), [])
                    self.same(values[comes], values[-1])
                else:
                    values = worths(nodes + (seen, comes), boxes, (), [])
                    self.same(values[-1], values[-2])


if __name__ == "__main__":
    unittest.main()
