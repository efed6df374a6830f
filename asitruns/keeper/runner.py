"""The runner: a run that makes blocks of the guest's rows while they run, and enters those that are kept."""

from asitruns.errors import NoStep
from asitruns.guest.rows import set_out
from asitruns.guest.runs import is_due, is_hear, run_and_window, with_bell
from asitruns.guest.steps import BOXES, CELLS, PLACE, RIGHTS, RUN, SAVED, do_row
from asitruns.host.deal import deal
from asitruns.host.machine import do_host
from asitruns.keeper.keeper import Keeper
from asitruns.middle.blocks import block_at
from asitruns.middle.lead import keeping_all, lead
from asitruns.middle.shorten import shorten


def made_by(number, place, rows):
    """What a number of a policy makes of a block: (made block, paper, host block)."""
    if number // 64 % 2 == 1:
        made = shorten(place, rows)
    else:
        plain = lead(place, rows)
        made = (plain, keeping_all(plain))
    return made + (deal(made[0], 3 + number // 128 % 14),)


def written_page(number, state):
    """The page that the row of this number wrote into, a set that is done, by the state behind it; None of others."""
    row = set_out(number)
    # A set leaves the boxes as they were, so they tell its address behind it too.
    return (state[BOXES][row[2]] + row[3]) // 8 if row[0] == "set" else None


def closed_pages(before, behind):
    """The pages that may no more be run."""
    return [page for page, rights in enumerate(before) if rights & RUN and not behind[page] & RUN]


class Runner:
    """A run as far as it has come, and the keeper of its blocks."""

    def __init__(self, state, given, bells, ring, policy):
        self.now = state
        self.given = tuple(given)
        self.bells = tuple(bells)
        self.ring = ring
        self.policy = tuple(policy)
        self.used = 0
        self.keeper = Keeper()
        # Whether the block at a place was made by a number that tells to bind it.
        self.binding = {}
        # The place of the block that was left right ahead, or None.
        self.behind = None
        # How the run ended, None as long as it may go on.
        self.ended = None
        self.told = []
        self.done = 0
        self.heard = 0
        self.rung = 0
        self.entries = [(0, state, 0, 0)]
        self.tally = {"host rows": 0, "single rows": 0, "entries": 0, "by bindings": 0, "made": 0}

    def run(self, most=400):
        """Goes on until so many rows are done in all: what run tells of a plain run, of the whole run so far."""
        while self.ended is None and self.done < most:
            self.go_on(most)
        how = "more" if self.ended is None else self.ended
        return (how, self.now, tuple(self.told), self.done, self.heard, self.rung)

    def go_on(self, most):
        """A bell where one is due, then a kept block where there is room for it, or else a single row."""
        if self.entries[-1][0] != self.done:
            self.entries.append((self.done, self.now, self.heard, self.rung))
        if is_due(self.now, self.bells, self.rung, self.done):
            self.now = with_bell(self.now, self.ring)
            self.rung += 1
            self.behind = None
        if self.keeper.host_at(self.now[PLACE]) is None:
            self.make()
        rows = self.keeper.rows_at(self.now[PLACE])
        if rows is not None and len(rows) <= self.room(most):
            self.enter(rows)
        else:
            self.do_single()

    def room(self, most):
        """How many rows may be done ahead of the bound and of the next bell."""
        if self.now[SAVED] is None and self.rung < len(self.bells):
            return min(most, self.bells[self.rung]) - self.done
        return most - self.done

    def make(self):
        """Does what the policy's next number tells at the state's place."""
        if len(self.policy) == 0:
            return
        number = self.policy[self.used % len(self.policy)]
        self.used += 1
        place = self.now[PLACE]
        rows = block_at(self.now, place, 1 + number // 4 % 16)
        if number % 4 == 0 or len(rows) == 0:
            return
        made = made_by(number, place, rows)
        if number // 2048 % 4 == 1:
            for other in self.keeper.kept():
                self.keeper.throw(other)
        self.keeper.offer(self.now, made[0], made[1], made[2])
        self.binding[place] = number // 8192 % 2 == 1
        self.tally["made"] += 1

    def enter(self, rows):
        """Does the host block that is kept at the state's place; rows are its guest rows."""
        place = self.now[PLACE]
        before = self.now[RIGHTS]
        if self.behind is not None and place in self.keeper.bound(self.behind):
            self.tally["by bindings"] += 1
        outcome = do_host(self.keeper.host_at(place), self.now, self.given[self.heard:], self.keeper.watched())
        self.now = outcome[1]
        self.told.extend(outcome[2])
        self.done += outcome[3]
        self.heard += outcome[4]
        self.tally["host rows"] += outcome[5]
        self.tally["entries"] += 1
        if outcome[0] == "shut":
            self.keeper.shut(written_page(rows[outcome[3] - 1], self.now))
        self.shut_closed(before)
        if outcome[0] in ("on", "shut"):
            self.leave(place)
        else:
            self.ended = outcome[0]

    def leave(self, place):
        """Binds the block at the place, which was left, to the one that is kept where it was left for."""
        self.behind = place
        if self.binding[place]:
            self.keeper.bind(place, self.now[PLACE])

    def do_single(self):
        """Does the row at the state's place."""
        before = self.now
        outcome = do_row(before, self.given[self.heard] if self.heard < len(self.given) else 0)
        if outcome[0] != "on":
            self.ended = outcome[0]
            return
        if self.heard < len(self.given) and is_hear(before):
            self.heard += 1
        self.now = outcome[1]
        self.told.extend(outcome[2])
        self.done += 1
        self.behind = None
        self.tally["single rows"] += 1
        # Of a page that is not watched no block is kept, so none goes.
        self.keeper.shut(written_page(before[CELLS][before[PLACE]], before))
        self.shut_closed(before[RIGHTS])

    def shut_closed(self, before):
        """Shuts the pages from which the right to be run was taken; before are the rights ahead."""
        for page in closed_pages(before, self.now[RIGHTS]):
            self.keeper.shut(page)

    def state(self):
        """The guest's state now."""
        return self.now

    def offer(self, block, paper, host):
        """Offers a block to the keeper, in the state now; NoPaper where it is not taken."""
        self.keeper.offer(self.now, block, paper, host)
        self.binding[block[0]] = False

    def throw(self, place):
        """Throws out the block that is kept at the place; how many went."""
        return self.keeper.throw(place)

    def kept(self):
        """The kept blocks: a list of (place, guest rows), rising."""
        return [(place, self.keeper.rows_at(place)) for place in self.keeper.kept()]

    def states_from(self, entry, rows):
        """The states from an entry on, so many rows further, by single rows."""
        bells = [bell - entry[0] for bell in self.bells[entry[3]:]]
        return run_and_window(entry[1], self.given[entry[2]:], bells, self.ring, rows)[1]

    def window(self):
        """The states at each number of rows done, each ahead of a bell that rings then."""
        ends = [entry[0] for entry in self.entries[1:]] + [self.done + 1]
        states = []
        for entry, end in zip(self.entries, ends):
            states.extend(self.states_from(entry, end - entry[0] - 1))
        return states

    def at(self, rows):
        """The state at so many rows done; NoStep where the run did not come to it."""
        if not 0 <= rows <= self.done:
            raise NoStep(f"the run did not come to {rows} rows")
        ahead = [entry for entry in self.entries if entry[0] <= rows]
        return self.states_from(ahead[-1], rows - ahead[-1][0])[-1]

    def counts(self):
        """(host rows, single rows, entries of blocks, of these by bindings, blocks made)."""
        return tuple(self.tally.values())
