"""The looker of host blocks: whether a host block does what the middle block beside it does."""

from asitruns.host.forms import FORMS, ITEMS, LAST, as_one, item_ways, last_ways, last_word, parts_of
from asitruns.middle.forms import BRINGING, is_below, is_of_told_kinds, is_table, is_tuple_of, is_whole

# How many numbers stand in exits of middle blocks, by their words.
EXITS = {"halt": 0, "bad": 0, "on": 1, "when": 3, "go": 1, "back": 0}

SHELF = 1000


def are_nodes(numbers, many, nodes):
    """Whether this is a tuple of so many numbers of nodes."""
    return is_tuple_of(numbers, many) and all([is_below(number, len(nodes)) for number in numbers])


def is_item(led, nodes, rows):
    """Whether an item, a tuple of five, has the form that its word asks for."""
    if led[0] not in ITEMS or not is_below(led[1], len(rows)):
        return False
    return are_nodes(led[2], ITEMS[led[0]], nodes) and are_nodes(led[3], 8, nodes) and are_nodes(led[4], 3, nodes)


def is_way(way, nodes):
    """Whether a middle block's exit has the form that its word asks for."""
    if not is_tuple_of(way, 4) or way[0] not in EXITS or not is_tuple_of(way[1], EXITS[way[0]]):
        return False
    named = 1 if way[0] in ("when", "go") else 0
    if not are_nodes(way[1][:named], named, nodes):
        return False
    if not all([is_below(place, 65536) for place in way[1][named:]]):
        return False
    return are_nodes(way[2], 8, nodes) and are_nodes(way[3], 3, nodes)


def is_middle(block):
    """Whether this has the form of a middle block."""
    if not is_tuple_of(block, 5) or not is_of_told_kinds(block):
        return False
    if not all([isinstance(part, tuple) for part in block[1:4]]):
        return False
    if not is_below(block[0], 65536) or not 1 <= len(block[1]) <= 60:
        return False
    if not all([is_tuple_of(led, 5) for led in block[3]]):
        return False
    if not is_table(block[2], [led[0] for led in block[3]]):
        return False
    return all([is_item(led, block[2], block[1]) for led in block[3]]) and is_way(block[4], block[2])


def is_row(row, host):
    """Whether this is a row with a known word, and hands, shelf places and exits that the host block has."""
    if not isinstance(row, tuple) or len(row) == 0 or row[0] not in FORMS or len(row) != 1 + len(FORMS[row[0]]):
        return False
    bounds = {"d": host[1], "x": host[1], "s": SHELF, "e": len(host[3])}
    for part, sign in zip(row[1:], FORMS[row[0]]):
        if not is_whole(part) or sign in bounds and not is_below(part, bounds[sign]):
            return False
    return True


def is_host(host, place):
    """Whether this has the form of a host block at the place; exits are looked at where a row names them."""
    if not is_tuple_of(host, 4) or not is_whole(host[0]) or host[0] != place:
        return False
    if not is_whole(host[1]) or not 3 <= host[1] <= 16:
        return False
    if not isinstance(host[2], tuple) or not isinstance(host[3], tuple) or not is_of_told_kinds(host[2]):
        return False
    if not all([is_row(row, host) for row in host[2]]):
        return False
    return [row[0] in LAST for row in host[2]] == [False] * (len(host[2]) - 1) + [True]


class Beside:
    """The middle block beside a host block, and which nodes its hands and shelf places have."""

    def __init__(self, block, exits):
        known = as_one(block[2])
        self.block = block
        self.exits = exits
        self.firsts = known[0]
        self.by_form = known[1]
        self.hands = {}
        self.shelf = {}
        self.come = 0

    def all_first(self, numbers):
        """The nodes with which these count as one."""
        return tuple([self.firsts[number] for number in numbers])

    def in_hands(self, row):
        """The nodes in the hands that a row reads, None for a hand that has none."""
        return tuple([self.hands.get(hand) for hand in parts_of(row, "x")])

    def node_of(self, source, word):
        """The node that a source of an exit has, or None; word is that of old ones, box or mark."""
        if not is_tuple_of(source, 2) or not is_of_told_kinds(source):
            return None
        if source[0] == "hand":
            return self.hands.get(source[1])
        if source[0] == "shelf":
            return self.shelf.get(source[1])
        return self.by_form.get((word, source[1])) if source[0] == "old" else None

    def are_there(self, sources, numbers, word):
        """Whether the sources have these nodes, one by one."""
        if not is_tuple_of(sources, len(numbers)):
            return False
        return self.all_first(numbers) == tuple([self.node_of(source, word) for source in sources])

    def is_place(self, told, way, node):
        """Whether an exit tells the place of a way, or where the way has none a hand with the node."""
        if way[1] is None:
            return is_tuple_of(told, 2) and told[0] == "hand" and self.node_of(told, "") == self.firsts[node]
        return is_whole(told) and told == way[1]

    def leaves(self, number, way, boxes, marks, node):
        """Whether the exit is that of a way, a tuple (how, place, rows done), with these nodes."""
        told = self.exits[number]
        if not is_tuple_of(told, 5) or not is_whole(told[4]) or (told[0], told[4]) != (way[0], way[2]):
            return False
        if not self.is_place(told[1], way, node):
            return False
        return self.are_there(told[2], boxes, "box") and self.are_there(told[3], marks, "mark")

    def leaves_back(self, number, way, boxes):
        """Whether the exit is that of a back for what was saved: place and marks are of no account."""
        told = self.exits[number]
        if not is_tuple_of(told, 5) or not is_whole(told[4]) or (told[0], told[4]) != (way[0], way[2]):
            return False
        return is_whole(told[1]) and self.are_there(told[2], boxes, "box")

    def put_by(self, row):
        """The node that a row ahead of the last one, but those of items, puts somewhere, or None."""
        named = self.in_hands(row)
        if row[0] == "keep":
            return named[0]
        if row[0] == "load":
            return self.shelf.get(row[2])
        # No form has a None in it, so a hand that has none is not let by.
        return self.by_form.get(row[:1] + parts_of(row, "n") + named)

    def goes_along(self, row):
        """Whether a row ahead of the last one is let by; what it puts is held then."""
        if row[0] in ITEMS:
            return self.item_comes(row)
        put = self.put_by(row)
        held = self.shelf if row[0] == "keep" else self.hands
        held[row[1]] = put
        return put is not None

    def item_comes(self, row):
        """Whether a row is that of the next item."""
        if self.come == len(self.block[3]):
            return False
        led = self.block[3][self.come]
        if row[0] != led[0] or self.in_hands(row) != self.all_first(led[2]):
            return False
        for number, way in zip(parts_of(row, "e"), item_ways(self.block[0], led)):
            if not self.leaves(number, way, led[3], led[4], None):
                return False
        if row[0] in BRINGING:
            self.hands[row[1]] = self.by_form.get(("item", self.come))
        self.come += 1
        return True

    def ends(self, row):
        """Whether the last row is that of the block's exit, behind all items."""
        word = self.block[4][0]
        numbers = self.block[4][1]
        boxes = self.block[4][2]
        marks = self.block[4][3]
        if row[0] != last_word(word) or self.come != len(self.block[3]):
            return False
        if word == "when" and self.in_hands(row) != self.all_first(numbers[:1]):
            return False
        ways = last_ways(self.block)
        left = parts_of(row, "e")
        if word == "back":
            return self.leaves(left[0], ways[0], boxes, marks, None) and self.leaves_back(left[1], ways[1], boxes)
        node = numbers[0] if word == "go" else None
        return all([self.leaves(number, way, boxes, marks, node) for number, way in zip(left, ways)])


def host_lets_by(block, host):
    """Whether the host block does what the middle block does, in every state."""
    if not is_middle(block) or not is_host(host, block[0]):
        return False
    beside = Beside(block, host[3])
    for row in host[2][:-1]:
        if not beside.goes_along(row):
            return False
    return beside.ends(host[2][-1])
