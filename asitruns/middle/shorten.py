"""Plain middle blocks shortened: nodes that are worth the same become one, and gets again are left out."""

from asitruns.middle.lead import lead
from asitruns.middle.looker import all_alike, item_nodes, kept_exit, kept_items, seen_as
from asitruns.middle.rules import RULES, num_of

# The rules that make a node seen plainer whichever n they are given.
PLAINER = ("count", "sure", "never", "self", "zero", "one", "nil")


def is_behind(nodes, x, y):
    """Whether x comes behind y in a sum or product: num's last, as the rules ask for, and the others rising."""
    return (nodes[x][0] == "num", x) > (nodes[y][0] == "num", y)


class Shorter:
    """A made table and its paper, as far as they are made."""

    def __init__(self):
        self.nodes = []
        self.known = {}
        self.fates = []
        self.likes = []
        self.alike = []
        # The gets that a later one may be again of, by the made nodes of their numbers.
        self.gets = {}
        self.many = 0

    def put(self, node):
        """The number of this node in the made table, where it stands once."""
        if node not in self.known:
            self.known[node] = len(self.nodes)
            self.nodes.append(node)
        return self.known[node]

    def step(self, seen):
        """The next step for a node seen, or None where it is to stand as it is."""
        for rule in PLAINER:
            if RULES[rule](self.nodes, seen, 0) is not None:
                return (rule, 0)
        if seen[0] == "sub" and num_of(self.nodes, seen[2]) is not None:
            return ("subnum", self.put(("num", (0 - num_of(self.nodes, seen[2])) % 65536)))
        if RULES["swap"](self.nodes, seen, 0) is not None and is_behind(self.nodes, seen[1], seen[2]):
            return ("swap", 0)
        return None

    def like(self, seen):
        """The like of a node seen, or of a number seen at once."""
        steps = []
        while isinstance(seen, tuple):
            step = self.step(seen)
            if step is None:
                return (self.put(seen), tuple(steps))
            steps.append(step)
            seen = RULES[step[0]](self.nodes, seen, step[1])
        return (seen, tuple(steps))

    def decide(self, led):
        """The fate of the next item of the plain block, whose numbers have their likes."""
        numbers = all_alike(led[2], self.alike)
        if led[0] == "get" and numbers in self.gets:
            self.fates.append(("again", self.gets[numbers]))
            return
        if led[0] == "get":
            self.gets[numbers] = len(self.fates)
        elif led[0] in ("set", "right"):
            self.gets = {}
        self.fates.append(("kept", self.many))
        self.many += 1


def shorten(place, rows):
    """The plain block of a place and rows shortened: (made block, paper)."""
    plain = lead(place, rows)
    bringing = item_nodes(plain[2])
    shorter = Shorter()
    for node in plain[2]:
        if node[0] == "item":
            for led in plain[3][len(shorter.fates):node[1] + 1]:
                shorter.decide(led)
        like = shorter.like(seen_as(node, shorter.fates, shorter.alike, bringing))
        shorter.likes.append(like)
        shorter.alike.append(like[0])
    for led in plain[3][len(shorter.fates):]:
        shorter.decide(led)
    led = kept_items(shorter.fates, plain[3], shorter.alike)
    block = (place, plain[1], tuple(shorter.nodes), led, kept_exit(plain[4], shorter.alike))
    return (block, (tuple(shorter.fates), tuple(shorter.likes)))
