"""What the tests of several modules need."""

import unittest

from asitruns.errors import NoTurning
from asitruns.guest.rows import number_of, read, set_out
from asitruns.guest.steps import begin, do_word
from asitruns.middle.lead import lead
from asitruns.middle.nodes import under
from asitruns.middle.rules import turned

# Written out here once more, so that a change of the program's own order is seen.
WORDS = ("halt", "put", "add", "sub", "mul", "bad", "div", "get",
         "set", "jump", "when", "go", "tell", "hear", "right", "back")

# The nodes that each plain middle block has first, and where boxes and marks stand in them.
FIRST = (("box", 0), ("box", 1), ("box", 2), ("box", 3), ("box", 4), ("box", 5), ("box", 6), ("box", 7),
         ("mark", 0), ("mark", 1), ("mark", 2))
BOXES = (0, 1, 2, 3, 4, 5, 6, 7)
MARKS = (8, 9, 10)

# Words of nodes that are worth a number, and of those that are worth a truth.
NUMBERS = ("num", "box", "item", "add", "sub", "mul")
TRUTHS = ("mark", "nought", "high", "over", "under", "wide", "rest", "yes", "no")

RULES = ("swap", "group", "ungroup", "subnum", "zero", "one", "nil", "self", "count", "sure", "never")


def kinds_of(value):
    """The kinds of a value and of all that is in it."""
    if isinstance(value, (tuple, list)):
        return (type(value), [kinds_of(part) for part in value])
    return type(value)


def altered(state, **parts):
    """The state with some of its parts, told by their names, exchanged."""
    names = ("place", "boxes", "marks", "saved", "rights", "cells")
    return tuple([parts.get(name, part) for name, part in zip(names, state)])


def state_of(*rows, **parts):
    """A state with these rows from cell 0 on, filled up by 0 to a multiple of 8, all rights 7; parts as altered."""
    cells = read("\n".join(rows)) if rows else ()
    cells += (0,) * (-len(cells) % 8)
    return altered(begin(cells, (7,) * (len(cells) // 8)), **parts)


def rows_of(*rows):
    """The numbers of these rows, told as texts."""
    return read("\n".join(rows))


def changed(value, path, new):
    """The tuples within tuples with another thing at the end of a path of indexes; a function is given what was."""
    if not path:
        return new(value) if callable(new) else new
    return value[:path[0]] + (changed(value[path[0]], path[1:], new),) + value[path[0] + 1:]


def mixed(seed, many):
    """Many numbers from 0 to 65535, the same ones for the same seed, in no order that a program has."""
    found = []
    for step in range(many):
        seed = (seed * 1103515245 + 12345 + step) % 2 ** 31
        found.append(seed // 2 ** 12 % 65536)
    return found


def program(numbers):
    """Cells of these numbers, but that of five rows that would end a block four become rows that count or tell."""
    calm = ("put", "add", "sub", "mul", "tell")
    found = []
    for number in numbers:
        if WORDS[number // 4096] in ("halt", "bad", "jump", "when", "go", "right", "back") and number % 5:
            number = WORDS.index(calm[number // 64 % 5]) * 4096 + number % 4096
        found.append(number)
    return tuple(found)


def some_state(seed):
    """A state of four pages in no order: cells, rights, boxes small and great, marks, saved or not."""
    numbers = mixed(seed, 60)
    boxes = [number % (65536, 65536, 5, 2, 40, 36, 300, 34)[k] for k, number in enumerate(numbers[:8])]
    if numbers[8] % 3 == 0:
        boxes[numbers[9] % 8] = (0, 1, 32767, 32768, 65535)[numbers[10] % 5]
    marks = tuple([number % 2 == 0 for number in numbers[11:14]])
    saved = (numbers[14], tuple([number % 2 == 0 for number in numbers[15:18]])) if numbers[18] % 2 else None
    # Mostly all rights, so that blocks come to their end often enough.
    rights = tuple([number % 8 if number // 8 % 4 == 0 else 7 for number in numbers[19:23]])
    return (numbers[23], tuple(boxes), marks, saved, rights, tuple(numbers[24:56]))


def some_rows(seed, most):
    """Rows of a block, at most so many: those of a program in no order up to one that ends a block."""
    rows = []
    for number in program(mixed(seed, most)):
        # Of cells mostly those are asked for that small boxes tell.
        if WORDS[number // 4096] in ("get", "set") and number % 3:
            number = number - number % 512 + (4 + number % 2) * 64 + number % 4
        rows.append(number)
        if WORDS[number // 4096] in ("halt", "bad", "jump", "when", "go", "right", "back"):
            break
    return tuple(rows)


def row_by_row(place, rows, state, given, watched):
    """What a block of these rows at the place does in a state, as point 14 tells it, by single rows (point 7)."""
    state = altered(state, place=place % 65536)
    told = ()
    heard = 0
    for at, number in enumerate(rows):
        row = set_out(number)
        how, behind, more = do_word(state, row, given[heard] if heard < len(given) else 0)
        if how != "on":
            return (how, state, told, at, heard)
        told += more
        heard += row[0] == "hear" and heard < len(given)
        if row[0] == "set" and (state[1][row[2]] + row[3]) // 8 in watched:
            return ("shut", behind, told, at + 1, heard)
        state = behind
    return ("on", state, told, len(rows), heard)


def keeping_all(plain):
    """The paper of the plain block as it is."""
    return (tuple([("kept", k) for k in range(len(plain[3]))]), tuple([(k, ()) for k in range(len(plain[2]))]))


def close_rows(seed, many):
    """Rows of a block over few boxes and few numbers, so that they have much to do with one another."""
    rows = []
    for number in mixed(seed, many):
        a, b, c = number // 64 % 4, number // 256 % 4, number // 1024 % 4
        word = ("put", "put", "put", "get", "get", "get", "add", "add", "sub", "sub", "mul", "mul", "set", "tell",
                "hear", "div")[number % 16]
        if word in ("get", "set"):
            b, c = 4 + b // 3, c // 2
        elif word == "put":
            c = (0, 0, 1, 7)[c]
        rows.append(number_of((word, a, b, c)))
    last = ("halt", "bad", "jump", "when", "go", "right", "back", "tell")[seed % 8]
    return tuple(rows) + (number_of((last, seed // 8 % 4, 0, 40)),)


class Maker:
    """Makes a block, and its paper, of the plain one of a place and rows: by choices in no order, and by no search."""

    def __init__(self, place, rows, seed):
        self.plain = lead(place, rows)
        self.numbers = mixed(seed, 500)
        self.nodes = []
        self.fates = []
        self.likes = []
        # The plain nodes of items, by the items that bring them.
        self.bringing = {node[1]: number for number, node in enumerate(self.plain[2]) if node[0] == "item"}

    def choice(self, many):
        self.numbers.append(self.numbers.pop(0))
        return self.numbers[-1] // 7 % many

    def put(self, node):
        """The number of such a node; now and then of a new one although there is one."""
        if node in self.nodes and self.choice(6):
            return self.nodes.index(node)
        self.nodes.append(node)
        return len(self.nodes) - 1

    def alike(self, numbers):
        return tuple([self.likes[number][0] for number in numbers])

    def prepare(self, seen):
        """Puts in the nodes that subnum, group and ungroup ask for as n."""
        if seen[0] == "sub" and self.nodes[seen[2]][0] == "num":
            self.put(("num", -self.nodes[seen[2]][1] % 65536))
        if seen[0] in ("add", "mul"):
            x, y = self.nodes[seen[1]], self.nodes[seen[2]]
            if x[0] == seen[0]:
                self.put((seen[0], x[2], seen[2]))
            if y[0] == seen[0]:
                self.put((seen[0], seen[1], y[1]))

    def ways(self, seen):
        """Each step that turns the node seen, with what comes; where any n will do only one."""
        found = []
        for rule in RULES:
            for n in range(len(self.nodes)):
                try:
                    found.append(((rule, n), turned(tuple(self.nodes), seen, (rule, n))))
                except NoTurning:
                    continue
                if rule not in ("group", "ungroup", "subnum"):
                    break
        return found

    def like(self, seen):
        """A like of what is seen, by some steps."""
        steps = []
        while isinstance(seen, tuple) and len(steps) < 6 and self.choice(4):
            if self.choice(2):
                self.prepare(seen)
            ways = self.ways(seen)
            if not ways:
                break
            # What turns by more than a swap is rarer, and is taken mostly.
            ways = [way for way in ways if way[0][0] != "swap" or not self.choice(3)] or ways
            step, seen = ways[self.choice(len(ways))]
            steps.append(step)
        return (seen if isinstance(seen, int) else self.put(seen), tuple(steps))

    def gets_ahead(self, k):
        """The gets ahead that get k may be again of."""
        found = []
        for i in range(k):
            led = self.plain[3]
            if led[i][0] in ("set", "right"):
                found = []
            elif led[i][0] == "get" and self.alike(led[i][2]) == self.alike(led[k][2]):
                found.append(i)
        return found

    def keep(self, upto):
        """The items ahead of that one, which no node has told of yet, are kept."""
        while len(self.fates) < upto:
            self.fates.append(("kept", [fate[0] for fate in self.fates].count("kept")))

    def item_like(self, k):
        """The like of the node of item k, and its fate with it."""
        self.keep(k)
        gets = self.gets_ahead(k) if self.plain[3][k][0] == "get" else []
        if gets and self.choice(5):
            i = gets[self.choice(len(gets))]
            self.fates.append(("again", i))
            return (self.likes[self.bringing[i]][0], ())
        self.keep(k + 1)
        return (self.put(("item", self.fates[k][1])), ())

    def make(self):
        """A made block and its paper."""
        for node in self.plain[2]:
            if node[0] == "item":
                self.likes.append(self.item_like(node[1]))
            else:
                self.likes.append(self.like(node[:1] + self.alike(under(node)) if under(node) else node))
        self.keep(len(self.plain[3]))
        led = [thing[:2] + tuple([self.alike(part) for part in thing[2:]])
               for thing, fate in zip(self.plain[3], self.fates) if fate[0] == "kept"]
        word, numbers, boxes, marks = self.plain[4]
        if word in ("when", "go"):
            numbers = self.alike(numbers[:1]) + numbers[1:]
        left = (word, numbers, self.alike(boxes), self.alike(marks))
        self.leave_out()
        block = self.plain[:2] + (tuple(self.nodes), tuple(led), left)
        return self.sorted_anew(block, (tuple(self.fates), tuple(self.likes)))

    def leave_out(self):
        """Most of the likes on which nothing kept hangs become None."""
        used = set(self.plain[4][2] + self.plain[4][3])
        if self.plain[4][0] in ("when", "go"):
            used.add(self.plain[4][1][0])
        for thing, fate in zip(self.plain[3], self.fates):
            # Of a get that is again only its numbers are asked for.
            for part in thing[2:] if fate[0] == "kept" else thing[2:3]:
                used.update(part)
        for number in range(len(self.likes) - 1, -1, -1):
            node = self.plain[2][number]
            if number not in used and self.choice(4):
                self.likes[number] = None
            elif node[0] == "item" and self.fates[node[1]][0] == "again":
                used.add(self.bringing[self.fates[node[1]][1]])
            else:
                used.update(under(node))

    def sorted_anew(self, block, paper):
        """The same with the made nodes in another order, and without some that nothing asks for."""
        asked = [like[0] for like in paper[1] if like is not None]
        asked += [step[1] for like in paper[1] if like is not None for step in like[1]]
        asked += [number for number in range(len(block[2])) if not self.choice(4)]
        for number in asked:
            # The list grows while it is walked: so those that they name come along.
            asked.extend([named for named in under(block[2][number]) if named not in asked])
        left = sorted(set(asked))
        order = []
        while left:
            free = [number for number in left if set(under(block[2][number])) <= set(order)]
            order.append(free[self.choice(len(free))])
            left.remove(order[-1])
        return renumbered(block, paper, order)


def renumbered(block, paper, order):
    """Block and paper with the made nodes in this order."""
    new = {number: k for k, number in enumerate(order)}

    def all_new(numbers):
        return tuple([new[number] for number in numbers])

    nodes = [block[2][number] for number in order]
    nodes = tuple([node[:1] + all_new(node[1:]) if under(node) else node for node in nodes])
    led = tuple([thing[:2] + tuple([all_new(part) for part in thing[2:]]) for thing in block[3]])
    word, numbers, boxes, marks = block[4]
    if word in ("when", "go"):
        numbers = all_new(numbers[:1]) + numbers[1:]
    likes = tuple([like and (new[like[0]], tuple([(rule, new[n]) for rule, n in like[1]])) for like in paper[1]])
    return (block[:2] + (nodes, led, (word, numbers, all_new(boxes), all_new(marks))), (paper[0], likes))


class FreeBlock:
    """A middle block that is led of no rows: nodes and items by choices in no order.

    Each item and the exit hang on items ahead alone; an item's node may stand anywhere in the table.
    """

    def __init__(self, seed, most_nodes, most_items):
        self.numbers = mixed(seed, 3000)
        self.rows = tuple(mixed(seed + 1, 1 + self.choice(60)))
        words = ("get", "get", "set", "div", "tell", "hear", "right")
        self.words = [words[self.choice(7)] for k in range(self.choice(most_items + 1))]
        self.nodes = []
        # Behind how many items a node is known.
        self.known = []
        for node in [("num", self.choice(40)), ("yes",), ("box", self.choice(8)), ("mark", self.choice(3))]:
            self.put(node, 0)
        for k in range(self.choice(most_nodes - 3)):
            self.put_some()

    def choice(self, many):
        self.numbers.append(self.numbers.pop(0))
        return self.numbers[-1] // 5 % many

    def put(self, node, known):
        self.nodes.append(node)
        self.known.append(known)

    def pick(self, words, known):
        """A node of one of these words that is known behind so many items."""
        found = [number for number, node in enumerate(self.nodes) if node[0] in words and self.known[number] <= known]
        # Later ones mostly, so that nodes hang on many others.
        return found[-1 - self.choice(1 + self.choice(len(found)))]

    def put_some(self):
        word = ("num", "box", "mark", "item", "item", "add", "add", "sub", "sub", "mul", "nought", "high", "over",
                "under", "wide", "rest", "yes", "no")[self.choice(18)]
        if word in ("yes", "no"):
            self.put((word,), 0)
        elif word in ("num", "box", "mark"):
            self.put((word, self.choice({"num": 70, "box": 8, "mark": 3}[word])), 0)
        elif word == "item":
            bringing = [k for k, other in enumerate(self.words) if other in ("get", "div", "hear")]
            if bringing:
                k = bringing[self.choice(len(bringing))]
                self.put((word, k), k + 1)
        else:
            many = 1 if word in ("nought", "high") else 2
            named = tuple([self.pick(NUMBERS, len(self.words)) for k in range(many)])
            self.put((word,) + named, max([self.known[number] for number in named]))

    def standing(self, known):
        """Nodes for boxes and marks."""
        boxes = tuple([self.pick(NUMBERS, known) for k in range(8)])
        return (boxes, tuple([self.pick(TRUTHS, known) for k in range(3)]))

    def make(self, place):
        led = []
        for k, word in enumerate(self.words):
            many = {"get": 2, "set": 3, "div": 2, "tell": 1, "hear": 0, "right": 2}[word]
            numbers = tuple([self.pick(NUMBERS, k) for number in range(many)])
            led.append((word, self.choice(len(self.rows)), numbers) + self.standing(k))
        last = len(self.words)
        word = ("halt", "bad", "on", "when", "go", "back")[self.choice(6)]
        numbers = {"on": (self.choice(65536),), "go": (self.pick(NUMBERS, last),),
                   "when": (self.pick(TRUTHS, last), self.choice(65536), self.choice(65536))}.get(word, ())
        return (place, self.rows, tuple(self.nodes), tuple(led), (word, numbers) + self.standing(last))


class Choices:
    """Choices in no order, the same ones for the same seed."""

    def __init__(self, seed):
        self.numbers = mixed(seed, 2000)

    def below(self, many):
        self.numbers.append(self.numbers.pop(0))
        return self.numbers[-1] // 3 % many

    def of(self, things):
        return things[self.below(len(things))]


# Words of rows in a busy program, those that are wanted oftener several times.
BUSY = ("put",) * 6 + ("add",) * 5 + ("sub",) * 4 + ("mul",) * 2 + ("get",) * 4 + ("set",) * 4 + ("jump",) * 3 + \
    ("when",) * 4 + ("tell",) * 3 + ("hear",) * 3 + ("div", "go", "right", "back", "halt", "bad")


def busy_row(choices, place, many):
    """A row of a program of so many cells that leaps within them, and gets and sets its own cells."""
    word = choices.of(BUSY)
    a, b, c = choices.below(8), choices.below(8), choices.below(64)
    if word in ("get", "set"):
        b, c = choices.of((0, 0, b)), choices.below(min(64, many))
    elif word in ("jump", "when"):
        c = max(0, min(63, choices.below(many) - place - 1 + 32))
    elif word == "put":
        c = choices.of((choices.below(many) % 64, choices.below(4), c))
    elif word in ("halt", "bad") and choices.below(4):
        word = "tell"
    return number_of((word, a, b, c))


def busy_run(seed):
    """A state of a busy program, with givens, bells and their place."""
    choices = Choices(seed)
    pages = choices.of((1, 2, 3, 4, 8, 16))
    many = pages * 8
    cells = tuple([busy_row(choices, place, many) for place in range(many)])
    boxes = [choices.of((0, 0, 0, 3))]
    boxes += [choices.of((choices.below(many), choices.below(65536), 0, 1, choices.of(cells))) for k in range(7)]
    marks = tuple([choices.below(2) == 0 for k in range(3)])
    saved = choices.of((None, None, (choices.below(many), (True, False, True))))
    rights = tuple([choices.of((7,) * 6 + (choices.below(8),)) for page in range(pages)])
    state = (choices.below(many), tuple(boxes), marks, saved, rights, cells)
    given = [choices.below(65536) for k in range(choices.below(10))]
    bells = sorted({choices.below(120) for k in range(choices.below(12))})
    return (state, given, bells, choices.of((choices.below(many), choices.below(many + 3))))


def some_policy(seed):
    """None to five numbers: of those that make, of any, and of sixty figures below and above nought."""
    choices = Choices(seed + 11)
    policy = []
    for k in range(choices.below(6)):
        great = 1
        for step in range(12):
            great = great * 65536 + choices.below(65536)
        great %= 10 ** 60
        policy.append(choices.of((1 + choices.below(4096) * 4, choices.below(16384), great, -great,
                                  -choices.below(20000))))
    return policy


def paths_of(value):
    """The paths to each part of tuples within tuples, the whole first."""
    found = [()]
    if isinstance(value, tuple):
        for k, part in enumerate(value):
            found += [(k,) + path for path in paths_of(part)]
    return found


class Same(unittest.TestCase):
    """Tests that ask for values and for their kinds."""

    def same(self, told, asked):
        self.assertEqual(told, asked)
        self.assertEqual(kinds_of(told), kinds_of(asked))
