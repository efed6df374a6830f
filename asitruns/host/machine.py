"""Host blocks done in a guest's state."""

from asitruns.guest.steps import BOXES, CELLS, MARKS, RIGHTS, SAVED
from asitruns.host.forms import ITEMS, LAST, parts_of
from asitruns.middle.done import do_item, is_shutting
from asitruns.middle.forms import BRINGING
from asitruns.middle.nodes import made_of


class Hold:
    """What hands and shelf hold, and what boxes and marks were at the begin."""

    def __init__(self, boxes, marks):
        self.hands = {}
        self.shelf = {}
        self.boxes = boxes
        self.marks = marks

    def in_hand(self, x):
        """What hand x holds: 0 where nothing was put into it."""
        return self.hands.get(x, 0)

    def on_shelf(self, s):
        """What place s of the shelf holds: 0 where nothing was put there."""
        return self.shelf.get(s, 0)

    def put(self, row):
        """Does a row that reaches no further than hands and shelf."""
        word = row[0]
        if word == "keep":
            self.shelf[row[1]] = self.in_hand(row[2])
        elif word == "load":
            self.hands[row[1]] = self.on_shelf(row[2])
        elif word == "num":
            self.hands[row[1]] = row[2]
        elif word == "box":
            self.hands[row[1]] = self.boxes[row[2]]
        elif word == "mark":
            self.hands[row[1]] = self.marks[row[2]]
        else:
            self.hands[row[1]] = made_of(word, [self.in_hand(x) for x in parts_of(row, "x")])

    def source(self, source, old):
        """What a source of an exit tells; old are the boxes or the marks at the begin."""
        where = source[0]
        if where == "hand":
            return self.in_hand(source[1])
        if where == "shelf":
            return self.on_shelf(source[1])
        return old[source[1]]


def number_out(row, parts, saved):
    """The exit at which the last row leaves; parts are what its hands hold."""
    if row[0] == "out":
        return row[1]
    if row[0] == "back":
        return row[1] if saved is None else row[2]
    return row[2] if parts[0] else row[3]


def state_out(way, state, hold, is_back):
    """The state behind an exit; is_back, whether it is left for what was saved."""
    boxes = tuple([hold.source(source, hold.boxes) for source in way[2]])
    if is_back:
        return (state[SAVED][0], boxes, state[SAVED][1], None, state[RIGHTS], state[CELLS])
    place = hold.in_hand(way[1][1]) if isinstance(way[1], tuple) else way[1]
    marks = tuple([hold.source(source, hold.marks) for source in way[3]])
    return (place % 65536, boxes, marks, state[SAVED], state[RIGHTS], state[CELLS])


def do_host(host, state, given, watched):
    """A host block done in a state: (how, state, told numbers, rows done, givens heard, host rows done)."""
    hold = Hold(state[BOXES], state[MARKS])
    told = []
    heard = 0
    for count, row in enumerate(host[2], start=1):
        word = row[0]
        parts = [hold.in_hand(x) for x in parts_of(row, "x")]
        number = None
        if word in LAST:
            number = number_out(row, parts, state[SAVED])
        elif word in ITEMS:
            outcome = do_item(state, word, parts, given[heard] if heard < len(given) else 0)
            state = outcome[1]
            told.extend(outcome[2])
            if outcome[0] != "on":
                number = parts_of(row, "e")[0]
            elif is_shutting(word, parts, watched):
                number = parts_of(row, "e")[1]
            elif word in BRINGING:
                hold.hands[row[1]] = state[BOXES][0]
                heard += 1 if word == "hear" and heard < len(given) else 0
        else:
            hold.put(row)
        if number is not None:
            way = host[3][number]
            is_back = word == "back" and state[SAVED] is not None
            return (way[0], state_out(way, state, hold, is_back), tuple(told), way[4], heard, count)
    return None
