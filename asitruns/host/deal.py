"""Hands dealt: middle blocks led to host blocks."""

from asitruns.host.forms import as_one, item_ways, last_ways, last_word
from asitruns.middle.forms import BRINGING
from asitruns.middle.nodes import under

# The words of nodes that can be read anew at any time, and are told in exits as old ones.
OLD = ("box", "mark")


class Plan:
    """The tasks of a host block in their order, each node reckoned once, ahead of the first task that asks for it.

    A task is (kind, number, reads, boxes, marks): a node's number or an item's; the nodes that are to be in hands;
    those of the exits at which it may leave.
    """

    def __init__(self, nodes):
        self.nodes = nodes
        self.firsts = as_one(nodes)[0]
        self.planned = {}
        self.tasks = []

    def all_first(self, numbers):
        """The nodes with which these count as one."""
        return tuple([self.firsts[number] for number in numbers])

    def wanted(self, numbers):
        """The nodes that are to be reckoned for these, rising."""
        asked = dict([(number, True) for number in numbers])
        for number in range(len(self.nodes) - 1, -1, -1):
            if number in asked and number not in self.planned:
                asked.update([(named, True) for named in self.all_first(under(self.nodes[number]))])
        return [number for number in sorted(asked) if number not in self.planned]

    def task(self, kind, number, reads, boxes, marks):
        """Plans a task, and the nodes that it asks for ahead of it."""
        for asked in self.wanted(reads + boxes + marks):
            if self.nodes[asked][0] not in OLD and self.nodes[asked][0] != "item":
                self.planned[asked] = True
                self.tasks.append(("node", asked, self.all_first(under(self.nodes[asked])), (), ()))
        self.tasks.append((kind, number, reads, boxes, marks))


def planned_tasks(block):
    """The tasks of a middle block."""
    plan = Plan(block[2])
    for number, led in enumerate(block[3]):
        # Boxes and marks are asked for where the item may leave, only.
        leaves = len(item_ways(0, led)) > 0
        boxes = plan.all_first(led[3]) if leaves else ()
        marks = plan.all_first(led[4]) if leaves else ()
        plan.task("item", number, plan.all_first(led[2]), boxes, marks)
    way = block[4]
    reads = plan.all_first(way[1][:1]) if way[0] in ("when", "go") else ()
    plan.task("last", 0, reads, plan.all_first(way[2]), plan.all_first(way[3]))
    return plan.tasks


def all_uses(tasks):
    """For each node the tasks that ask for it, rising."""
    uses = {}
    for number, task in enumerate(tasks):
        for asked in task[2] + task[3] + task[4]:
            uses.setdefault(asked, []).append(number)
    return uses


class Dealer:
    """Rows and exits as far as they are made, and which nodes are in hands and on the shelf."""

    def __init__(self, block, many, uses):
        self.block = block
        self.uses = uses
        self.hands = [None] * many
        self.shelf = {}
        self.rows = []
        self.exits = []

    def later_uses(self, hand, task):
        """The tasks, from this one on, that ask for what is in the hand."""
        return [use for use in self.uses.get(self.hands[hand], []) if use >= task]

    def ease(self, hand, task):
        """How easily a hand is spared, greater for more: one that no task asks for, or else the latest one does."""
        later = self.later_uses(hand, task)
        return (0, later[0]) if later else (1, 0)

    def free_hand(self, locked, task):
        """A hand to put into; what tasks from this one on ask for goes to the shelf, locked nodes stay in hand."""
        free = [hand for hand, held in enumerate(self.hands) if held not in locked]
        hand = max(free, key=lambda spared: self.ease(spared, task))
        held = self.hands[hand]
        if self.later_uses(hand, task) and held not in self.shelf and self.block[2][held][0] not in OLD:
            self.shelf[held] = len(self.shelf)
            self.rows.append(("keep", self.shelf[held], hand))
        return hand

    def take(self, number, locked, task):
        """The hand in which the node is, brought there from the shelf or from the guest if need be."""
        if number in self.hands:
            return self.hands.index(number)
        hand = self.free_hand(locked, task)
        if number in self.shelf:
            self.rows.append(("load", hand, self.shelf[number]))
        else:
            node = self.block[2][number]
            self.rows.append((node[0], hand, node[1]))
        self.hands[hand] = number
        return hand

    def take_all(self, numbers, task):
        """The hands in which these nodes are, all at once."""
        return tuple([self.take(number, numbers, task) for number in numbers])

    def source(self, number):
        """Where an exit finds a node."""
        node = self.block[2][number]
        if node[0] in OLD:
            return ("old", node[1])
        if number in self.hands:
            return ("hand", self.hands.index(number))
        return ("shelf", self.shelf[number])

    def leave(self, ways, boxes, marks, hand):
        """The numbers of new exits for these ways; the hand holds the place where a way tells none."""
        found_boxes = tuple([self.source(number) for number in boxes])
        found_marks = tuple([self.source(number) for number in marks])
        numbers = []
        for way in ways:
            place = ("hand", hand) if way[1] is None else way[1]
            numbers.append(len(self.exits))
            self.exits.append((way[0], place, found_boxes, found_marks, way[2]))
        return tuple(numbers)

    def deal_node(self, number, hands, task):
        """The row that reckons a node of what is in these hands."""
        node = self.block[2][number]
        into = self.free_hand((), task + 1)
        self.rows.append((node[0], into) + (hands if under(node) else node[1:]))
        self.hands[into] = number

    def deal_item(self, number, brought, hands, task, boxes, marks):
        """The row of an item; brought is the node of what it brings, None where the table has none."""
        led = self.block[3][number]
        into = ()
        if led[0] in BRINGING:
            into = (self.free_hand((), task + 1),)
        left = self.leave(item_ways(self.block[0], led), boxes, marks, None)
        self.rows.append((led[0],) + into + hands + left)
        for hand in into:
            self.hands[hand] = brought

    def deal_last(self, hands, boxes, marks):
        """The last row; of go the hand tells the place and is not read by the row."""
        word = self.block[4][0]
        left = self.leave(last_ways(self.block), boxes, marks, hands[0] if word == "go" else None)
        self.rows.append((last_word(word),) + (hands if word == "when" else ()) + left)


def deal(block, many):
    """A host block with so many hands that does what the middle block does."""
    tasks = planned_tasks(block)
    by_form = as_one(block[2])[1]
    dealer = Dealer(block, many, all_uses(tasks))
    for number, task in enumerate(tasks):
        hands = dealer.take_all(task[2], number)
        if task[0] == "node":
            dealer.deal_node(task[1], hands, number)
        elif task[0] == "item":
            dealer.deal_item(task[1], by_form.get(("item", task[1])), hands, number, task[3], task[4])
        else:
            dealer.deal_last(hands, task[3], task[4])
    return (block[0], many, tuple(dealer.rows), tuple(dealer.exits))
