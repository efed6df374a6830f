"""Guest rows led to the plain middle block."""

from asitruns.guest.rows import set_out
from asitruns.guest.steps import leap_place

# Which truth of the two numbers is the mark carry of a word that counts.
CARRIES = {"add": "over", "sub": "under", "mul": "wide"}


class Draft:
    """A middle block as far as it is led: its nodes and items, and which nodes are in boxes and marks."""

    def __init__(self):
        self.nodes = [("box", k) for k in range(8)] + [("mark", k) for k in range(3)]
        self.led = []
        self.boxes = list(range(8))
        self.marks = list(range(8, 11))

    def node(self, made):
        """The number of a new node."""
        self.nodes.append(made)
        return len(self.nodes) - 1

    def item(self, word, at, numbers):
        """A new item, with boxes and marks as they stand now."""
        self.led.append((word, at, numbers, tuple(self.boxes), tuple(self.marks)))

    def item_node(self):
        """The number of a new node: what the last item brings."""
        return self.node(("item", len(self.led) - 1))

    def outcome(self, a, number, carry, x, y):
        """A node into box a, and the marks by it; carry is the word of the mark by x and y."""
        self.boxes[a] = number
        self.marks = [self.node(("nought", number)), self.node(("high", number)), self.node((carry, x, y))]


def lead_cell(draft, at, row):
    """Leads get and set."""
    a = row[1]
    x = draft.boxes[row[2]]
    y = draft.node(("num", row[3]))
    if row[0] == "set":
        draft.item("set", at, (x, y, draft.boxes[a]))
    else:
        draft.item("get", at, (x, y))
        draft.boxes[a] = draft.item_node()


def lead_row(draft, at, row):
    """Leads the row, set out, that is number at of its block; what leaves the block is the way out's affair."""
    word = row[0]
    a = row[1]
    x = draft.boxes[row[2]]
    y = draft.boxes[row[3] % 8]
    if word == "put":
        draft.boxes[a] = draft.node(("num", row[3]))
    elif word in CARRIES:
        draft.outcome(a, draft.node((word, x, y)), CARRIES[word], x, y)
    elif word == "div":
        draft.item("div", at, (x, y))
        draft.outcome(a, draft.item_node(), "rest", x, y)
    elif word in ("get", "set"):
        lead_cell(draft, at, row)
    elif word == "tell":
        draft.item("tell", at, (draft.boxes[a],))
    elif word == "hear":
        draft.item("hear", at, ())
        draft.boxes[a] = draft.item_node()
    elif word == "right":
        rights = draft.node(("num", row[3] % 8))
        draft.item("right", at, (draft.boxes[a], rights))


def way_of_when(marks, a, leap, behind):
    """Word and numbers of the exit of a when."""
    if a >= 6:
        return ("on", (leap if a == 6 else behind,))
    if a % 2 == 0:
        return ("when", (marks[a // 2], leap, behind))
    return ("when", (marks[a // 2], behind, leap))


def way_out(draft, place, rows):
    """Word and numbers of the exit of a block that begins at the place and has these rows."""
    behind = (place + len(rows)) % 65536
    if len(rows) == 0:
        return ("on", (behind,))
    row = set_out(rows[-1])
    word = row[0]
    leap = leap_place(behind - 1, row[3])
    if word in ("halt", "bad", "back"):
        return (word, ())
    if word == "jump":
        return ("on", (leap,))
    if word == "when":
        return way_of_when(draft.marks, row[1], leap, behind)
    if word == "go":
        return ("go", (draft.boxes[row[1]],))
    return ("on", (behind,))


def lead(place, rows):
    """The plain middle block of a place and a block's rows: (place, rows, nodes, items, exit)."""
    draft = Draft()
    for at, number in enumerate(rows):
        lead_row(draft, at, set_out(number))
    left = way_out(draft, place, rows) + (tuple(draft.boxes), tuple(draft.marks))
    return (place, tuple(rows), tuple(draft.nodes), tuple(draft.led), left)


def keeping_all(plain):
    """The paper that keeps all of the plain block: it is its own made block."""
    fates = [("kept", number) for number in range(len(plain[3]))]
    likes = [(number, ()) for number in range(len(plain[2]))]
    return (tuple(fates), tuple(likes))
