"""The keeper: made blocks by their places, and how they are bound to one another."""

from asitruns.errors import NoPaper
from asitruns.host.looker import host_lets_by
from asitruns.middle.blocks import block_at
from asitruns.middle.looker import lets_by


def pages_of(block):
    """The pages in which the rows of a made block lie, rising."""
    first = block[0] // 8
    last = (block[0] + len(block[1]) - 1) // 8
    return list(range(first, last + 1))


class Keeper:
    """Holds made blocks whose papers are let by."""

    def __init__(self):
        # By the place: (made block, paper, host block).
        self.held = {}
        # By the place: the places to which it is bound, each with True.
        self.bindings = {}

    def offer(self, state, block, paper, host):
        """Takes a block whose rows are those in the state's cells and which both lookers let by, or NoPaper."""
        if not lets_by(block, paper):
            raise NoPaper("the paper of the made block is not let by")
        if block_at(state, block[0], len(block[1])) != block[1]:
            raise NoPaper("the rows are not those of a block in the state")
        if not host_lets_by(block, host):
            raise NoPaper("the host block is not let by")
        self.throw(block[0])
        self.held[block[0]] = (block, paper, host)
        self.bindings[block[0]] = {}

    def host_at(self, place):
        """The host block that is kept at the place, or None."""
        return self.held[place][2] if place in self.held else None

    def kept(self):
        """The places of kept blocks, rising."""
        return sorted(self.held)

    def rows_at(self, place):
        """The guest rows of the block that is kept at the place, or None."""
        return self.held[place][0][1] if place in self.held else None

    def watched(self):
        """The pages of all kept blocks, rising."""
        pages = {}
        for place in self.held:
            for page in pages_of(self.held[place][0]):
                pages[page] = True
        return tuple(sorted(pages))

    def shut(self, page):
        """Throws out all kept blocks of the page; how many went."""
        return sum([self.throw(place) for place in self.kept() if page in pages_of(self.held[place][0])])

    def throw(self, place):
        """Throws out the block that is kept at the place, with all bindings from and to it; how many went."""
        if place not in self.held:
            return 0
        self.held.pop(place)
        self.bindings.pop(place)
        for other in list(self.bindings):
            self.bindings[other].pop(place, None)
        return 1

    def bind(self, place, other):
        """Binds the place to the other one where both are kept; whether they are."""
        if place not in self.held or other not in self.held:
            return False
        self.bindings[place][other] = True
        return True

    def bound(self, place):
        """The places to which the place is bound, rising."""
        return sorted(self.bindings.get(place, {}))
