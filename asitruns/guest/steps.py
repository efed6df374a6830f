"""The guest's state, and one row done in it."""

from asitruns.guest.rows import set_out

# Where the parts of a state stand in its tuple.
PLACE = 0
BOXES = 1
MARKS = 2
SAVED = 3
RIGHTS = 4
CELLS = 5

# What a page may be, as its rights add it up.
READ = 1
WRITTEN = 2
RUN = 4


def begin(cells, rights):
    """The state in which a guest with these cells and rights begins."""
    return (0, (0,) * 8, (False,) * 3, None, tuple(rights), tuple(cells))


def replaced(parts, k, part):
    """The tuple of parts with another part in the place of part k."""
    return parts[:k] + (part,) + parts[k + 1:]


def may_be(right, state, address):
    """Whether there is a cell at the address, and its page has the right."""
    if not 0 <= address < len(state[CELLS]):
        return False
    return state[RIGHTS][address // 8] & right == right


def moved(state, place):
    """The state at another place, which is taken by its rest."""
    return replaced(state, PLACE, place % 65536)


def one_on(state):
    """The state at the place behind its own."""
    return moved(state, state[PLACE] + 1)


def with_box(state, a, number):
    """The state one place on, with the number in box a."""
    return replaced(one_on(state), BOXES, replaced(state[BOXES], a, number))


def with_outcome(state, a, number, carry):
    """The state one place on, with the number in box a and the marks by it."""
    return replaced(with_box(state, a, number), MARKS, (number == 0, number >= 32768, carry))


def left(how, state):
    """What is told of a row that is not done."""
    return (how, state, ())


def on(state):
    """What is told of a row that is done and tells no number."""
    return ("on", state, ())


def plain_outcome(word, x, y):
    """The sum, difference or product of x and y, not yet by its rest."""
    if word == "add":
        return x + y
    if word == "sub":
        return x - y
    return x * y


def do_count(state, word, a, x, y):
    """What add, sub and mul do."""
    plain = plain_outcome(word, x, y)
    return on(with_outcome(state, a, plain % 65536, not 0 <= plain < 65536))


def do_div(state, a, x, y):
    """What div does."""
    if y == 0:
        return left("nought", state)
    return on(with_outcome(state, a, x // y, x % y != 0))


def do_get(state, a, address):
    """What get does."""
    if not may_be(READ, state, address):
        return left("closed", state)
    return on(with_box(state, a, state[CELLS][address]))


def do_set(state, number, address):
    """What set does."""
    if not may_be(WRITTEN, state, address):
        return left("closed", state)
    return on(replaced(one_on(state), CELLS, replaced(state[CELLS], address, number)))


def is_when(a, marks):
    """Whether a row when with this a leaps."""
    if a >= 6:
        return a == 6
    # Marks come in pairs of a: the even one asks whether the mark is so, the odd one whether not.
    return marks[a // 2] == (a % 2 == 0)


def leap_place(place, c):
    """The place that a row at the place leaps to."""
    return (place + 1 + c - 32) % 65536


def do_leap(state, c):
    """What jump does, and when where it is so."""
    return on(moved(state, leap_place(state[PLACE], c)))


def do_right(state, page, rights):
    """What right does."""
    if not 0 <= page < len(state[RIGHTS]):
        return left("closed", state)
    return on(replaced(one_on(state), RIGHTS, replaced(state[RIGHTS], page, rights)))


def do_back(state):
    """What back does."""
    saved = state[SAVED]
    if saved is None:
        return left("bad", state)
    return on((saved[0], state[BOXES], saved[1], None, state[RIGHTS], state[CELLS]))


def do_word(state, row, heard):
    """What the row, set out, does in a state at whose place it may be run."""
    word = row[0]
    a = row[1]
    b = row[2]
    c = row[3]
    boxes = state[BOXES]
    if word == "put":
        return on(with_box(state, a, c))
    if word in ("add", "sub", "mul"):
        return do_count(state, word, a, boxes[b], boxes[c % 8])
    if word == "div":
        return do_div(state, a, boxes[b], boxes[c % 8])
    if word == "get":
        return do_get(state, a, boxes[b] + c)
    if word == "set":
        return do_set(state, boxes[a], boxes[b] + c)
    if word == "jump":
        return do_leap(state, c)
    if word == "when":
        return do_leap(state, c) if is_when(a, state[MARKS]) else on(one_on(state))
    if word == "go":
        return on(moved(state, boxes[a]))
    if word == "tell":
        return ("on", one_on(state), (boxes[a],))
    if word == "hear":
        return on(with_box(state, a, heard))
    if word == "right":
        return do_right(state, boxes[a], c % 8)
    if word == "back":
        return do_back(state)
    # What is left is halt and bad: how is the word itself.
    return left(word, state)


def do_row(state, heard):
    """The row at the state's place done: a tuple (how, state, told)."""
    place = state[PLACE]
    if not may_be(RUN, state, place):
        return left("closed", state)
    return do_word(state, set_out(state[CELLS][place]), heard)
