"""The forms of host rows, the ways by which they leave, and nodes that count as one."""

from asitruns.middle.nodes import under

# The parts behind the word of each host row: d a hand that is put into, x a hand that is read, n a number of its own,
# s a place of the shelf, e an exit.
FORMS = {
    "num": "dn", "yes": "d", "no": "d", "box": "dn", "mark": "dn",
    "add": "dxx", "sub": "dxx", "mul": "dxx", "over": "dxx", "under": "dxx", "wide": "dxx", "rest": "dxx",
    "nought": "dx", "high": "dx", "keep": "sx", "load": "ds",
    "get": "dxxe", "set": "xxxee", "div": "dxxe", "tell": "x", "hear": "d", "right": "xxe",
    "out": "e", "when": "xee", "back": "ee",
}

# The words of items, each with how many numbers it has.
ITEMS = {"get": 2, "set": 3, "div": 2, "tell": 1, "hear": 0, "right": 2}

# The words of the last row.
LAST = ("out", "when", "back")


def parts_of(row, sign):
    """The parts of a host row of the kind that the sign tells, in their order."""
    return tuple([part for part, kind in zip(row[1:], FORMS[row[0]]) if kind == sign])


def item_ways(place, led):
    """The ways by which an item of the block at a place may leave, in the order of exits: (how, place, rows done)."""
    word = led[0]
    at = led[1]
    if word in ("tell", "hear"):
        return ()
    fault = ("nought" if word == "div" else "closed", (place + at) % 65536, at)
    if word == "set":
        return (fault, ("shut", (place + at + 1) % 65536, at + 1))
    return (fault,)


def last_ways(block):
    """The ways by which a block's exit leaves, in the order of exits; None for a place that a node tells."""
    word = block[4][0]
    numbers = block[4][1]
    done = len(block[1])
    ahead = ((block[0] + done - 1) % 65536, done - 1)
    if word in ("halt", "bad"):
        return ((word,) + ahead,)
    if word == "back":
        return (("bad",) + ahead, ("on", (block[0] + done) % 65536, done))
    if word == "when":
        return (("on", numbers[1], done), ("on", numbers[2], done))
    return (("on", None if word == "go" else numbers[0], done),)


def last_word(word):
    """The word of the host row by which an exit of this word leaves."""
    return word if word in ("when", "back") else "out"


def as_one(nodes):
    """For each node of a table the number of the first one that counts as one with it, and these by their forms.

    A form is a node that names only such first ones.
    """
    numbers = []
    by_form = {}
    for number, node in enumerate(nodes):
        form = node
        if under(node):
            form = node[:1] + tuple([numbers[named] for named in under(node)])
        numbers.append(by_form.setdefault(form, number))
    return (numbers, by_form)
