"""The forms of what anyone may have made: whole numbers, tuples, rows of a block and tables of nodes."""

from asitruns.guest.rows import set_out
from asitruns.middle.blocks import ENDS
from asitruns.middle.nodes import under

# How many numbers stand behind the word of a node.
COUNTS = {
    "num": 1, "box": 1, "mark": 1, "item": 1, "add": 2, "sub": 2, "mul": 2, "nought": 1, "high": 1,
    "over": 2, "under": 2, "wide": 2, "rest": 2, "yes": 0, "no": 0,
}

# Below what the numbers of nodes are that name neither nodes nor items.
BOUNDS = {"num": 65536, "box": 8, "mark": 3}

# The words of nodes that are worth a number; the others are worth a truth.
NUMBERS = ("num", "box", "item", "add", "sub", "mul")

# The words of items that bring something.
BRINGING = ("get", "div", "hear")


def is_whole(value):
    """Whether a value is a whole number; a truth is none."""
    return isinstance(value, int) and not isinstance(value, bool)


def is_below(value, bound):
    """Whether a value is a whole number from 0 on, below the bound."""
    return is_whole(value) and 0 <= value < bound


def is_tuple_of(value, many):
    """Whether a value is a tuple of so many parts."""
    return isinstance(value, tuple) and len(value) == many


def is_of_told_kinds(value):
    """Whether a value is a whole number, a text, or a tuple of such, however deep: then == takes no truth for 1."""
    parts = [value]
    while parts:
        part = parts.pop()
        if isinstance(part, tuple):
            parts.extend(part)
        elif not isinstance(part, str) and not is_whole(part):
            return False
    return True


def are_rows(rows):
    """Whether these are rows of a block: one to sixty numbers, of which only the last may end it."""
    if not isinstance(rows, tuple) or not 1 <= len(rows) <= 60:
        return False
    if not all([is_below(row, 65536) for row in rows]):
        return False
    return not any([set_out(row)[0] in ENDS for row in rows[:-1]])


def is_node(node):
    """Whether a value has the word of a node and as many numbers, whichever they are."""
    return isinstance(node, tuple) and len(node) > 0 and node[0] in COUNTS and len(node) == 1 + COUNTS[node[0]]


def keeps_bounds(nodes, number, words):
    """Whether the numbers of a node of a table are such as its word takes; words are those of the items."""
    node = nodes[number]
    word = node[0]
    if word in BOUNDS:
        return is_below(node[1], BOUNDS[word])
    if word == "item":
        return is_below(node[1], len(words)) and words[node[1]] in BRINGING
    return all([is_below(named, number) and nodes[named][0] in NUMBERS for named in under(node)])


def is_table(nodes, words):
    """Whether a tuple is a table of nodes, of a block whose items have these words."""
    if not all([is_node(node) for node in nodes]):
        return False
    return all([keeps_bounds(nodes, number, words) for number in range(len(nodes))])
