"""Middle blocks done in a state."""

from asitruns.guest.steps import (
    BOXES, CELLS, MARKS, RIGHTS, SAVED, do_back, do_div, do_get, do_right, do_set, moved, on, with_box,
)
from asitruns.middle.forms import BRINGING
from asitruns.middle.nodes import worths


def do_item(state, word, parts, heard):
    """An item done whose nodes are worth these parts, as a row is done; what it brings is put into box 0.

    Place, boxes and marks of the state are of no account: within a block the nodes hold them.
    """
    if word == "get":
        return do_get(state, 0, parts[0] + parts[1])
    if word == "set":
        return do_set(state, parts[2], parts[0] + parts[1])
    if word == "div":
        return do_div(state, 0, parts[0], parts[1])
    if word == "right":
        return do_right(state, parts[0], parts[1])
    if word == "hear":
        return on(with_box(state, 0, heard))
    return ("on", state, (parts[0],))


def is_shutting(word, parts, watched):
    """Whether an item, done, has written into a watched page."""
    return word == "set" and (parts[0] + parts[1]) // 8 in watched


def by_nodes(state, place, boxes, marks, known):
    """The state at the place, which is taken by its rest, with these nodes' worths in boxes and marks."""
    found_boxes = tuple([known[number] for number in boxes])
    found_marks = tuple([known[number] for number in marks])
    return (place % 65536, found_boxes, found_marks, state[SAVED], state[RIGHTS], state[CELLS])


def place_out(word, numbers, known):
    """The place that an exit on, when or go leads to."""
    if word == "when":
        return numbers[1] if known[numbers[0]] else numbers[2]
    if word == "go":
        return known[numbers[0]]
    return numbers[0]


def leave(block, state, known):
    """The exit of a block whose items are all done: (how, state, rows done)."""
    way = block[4]
    word = way[0]
    rows = len(block[1])
    ahead = by_nodes(state, block[0] + rows - 1, way[2], way[3], known)
    if word in ("halt", "bad"):
        return (word, ahead, rows - 1)
    if word == "back":
        row = do_back(ahead)
        return (row[0], row[1], rows if row[0] == "on" else rows - 1)
    return ("on", moved(ahead, place_out(word, way[1], known)), rows)


def do_block(block, state, given, watched):
    """A middle block done in a state: (how, state, told numbers, rows done, givens heard)."""
    boxes = state[BOXES]
    marks = state[MARKS]
    known = worths(block[2], boxes, marks, [])
    brought = []
    told = []
    heard = 0
    for led in block[3]:
        word = led[0]
        parts = [known[number] for number in led[2]]
        row = do_item(state, word, parts, given[heard] if heard < len(given) else 0)
        if row[0] != "on":
            return (row[0], by_nodes(state, block[0] + led[1], led[3], led[4], known), tuple(told), led[1], heard)
        state = row[1]
        told.extend(row[2])
        if word == "hear" and heard < len(given):
            heard += 1
        if is_shutting(word, parts, watched):
            behind = led[1] + 1
            return ("shut", by_nodes(state, block[0] + behind, led[3], led[4], known), tuple(told), behind, heard)
        brought.append(state[BOXES][0] if word in BRINGING else None)
        if word in BRINGING:
            known = worths(block[2], boxes, marks, brought)
    way = leave(block, state, known)
    return (way[0], way[1], tuple(told), way[2], heard)
