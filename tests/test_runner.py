"""Points 1, 2, 3, 24, 25, 26 and 27: asitruns.keeper.runner."""

import copy
import unittest

from asitruns.errors import GuestError, NoPaper, NoStep
from asitruns.guest.rows import set_out
from asitruns.guest.runs import run, window
from asitruns.guest.steps import do_row
from asitruns.host.deal import deal
from asitruns.host.machine import do_host
from asitruns.keeper.runner import Runner
from asitruns.middle.blocks import block_at
from asitruns.middle.lead import lead
from asitruns.middle.shorten import shorten
from helper import (
    Choices, Maker, Same, altered, busy_run, changed, keeping_all, mixed, row_by_row, some_policy, state_of,
)


def digits(makes=1, rows=16, short=0, hands=3, throws=0, binds=0):
    """The policy's number with these digits."""
    return makes + (rows - 1) * 4 + short * 64 + (hands - 3) * 128 + throws * 2048 + binds * 8192


def offer_of(state, place, many, hands=4):
    """Made block, paper and host block of so many rows of the state."""
    block, paper = shorten(place, block_at(state, place, many))
    return (block, paper, deal(block, hands))


class Model:
    """What points 24, 25 and 27 tell of a runner, with guest rows alone: blocks are done row by row."""

    def __init__(self, state, given, bells, ring, policy):
        self.state, self.given, self.bells, self.ring, self.policy = state, given, bells, ring, policy
        self.used = self.done = self.heard = self.rung = 0
        self.told = ()
        self.ended = None
        # By the place: rows, and whether it is to be bound; pairs of places.
        self.blocks = {}
        self.bound = set()
        self.last = None
        self.single = self.entries = self.by_bindings = self.made = 0

    def run(self, most):
        while self.ended is None and self.done < most:
            self.step(most)
        return (self.ended or "more", self.state, self.told, self.done, self.heard, self.rung)

    def goes(self, places):
        for place in places:
            self.blocks.pop(place, None)
            self.bound = {pair for pair in self.bound if place not in pair}

    def pages(self, place):
        return {cell // 8 for cell in range(place, place + len(self.blocks[place][0]))}

    def shut(self, page):
        self.goes([place for place in self.blocks if page in self.pages(place)])

    def step(self, most):
        next_bell = self.bells[self.rung] if self.rung < len(self.bells) else 10 ** 9
        if self.state[3] is None and next_bell <= self.done:
            self.state = altered(self.state, place=self.ring, saved=(self.state[0], self.state[2]))
            self.rung += 1
            self.last = None
        if self.state[0] not in self.blocks and self.policy:
            self.make()
        room = most - self.done
        if self.state[3] is None:
            room = min(room, next_bell - self.done)
        if self.state[0] in self.blocks and len(self.blocks[self.state[0]][0]) <= room:
            self.enter()
        else:
            self.one_row()

    def make(self):
        number = self.policy[self.used % len(self.policy)]
        self.used += 1
        rows = block_at(self.state, self.state[0], 1 + (number // 4) % 16)
        if number % 4 and rows:
            if (number // 2048) % 4 == 1:
                self.goes(list(self.blocks))
            self.blocks[self.state[0]] = (rows, (number // 8192) % 2 == 1)
            self.made += 1

    def behind(self, rows, state):
        """Shuts what a row that was done shuts; state is the one ahead of the block or row."""
        row = set_out(rows[-1])
        if row[0] == "set":
            self.shut((self.state[1][row[2]] + row[3]) // 8)
        for page, (before, now) in enumerate(zip(state[4], self.state[4])):
            if before // 4 and not now // 4:
                self.shut(page)

    def enter(self):
        place, before = self.state[0], self.state
        rows, binds = self.blocks[place]
        watched = tuple(set().union(*[self.pages(other) for other in self.blocks]))
        self.by_bindings += (self.last, place) in self.bound
        how, self.state, told, done, heard = row_by_row(place, rows, self.state, self.given[self.heard:], watched)
        self.entries += 1
        self.told += told
        self.done += done
        self.heard += heard
        if how == "shut" or how == "on" and set_out(rows[-1])[0] == "right":
            self.behind(rows[:done], before)
        if how not in ("on", "shut"):
            self.ended = how
            return
        self.last = place
        if binds and place in self.blocks and self.state[0] in self.blocks:
            self.bound.add((place, self.state[0]))

    def one_row(self):
        before = self.state
        heard = self.given[self.heard] if self.heard < len(self.given) else 0
        how, self.state, told = do_row(before, heard)
        if how != "on":
            self.ended = how
            return
        number = before[5][before[0]]
        self.heard += set_out(number)[0] == "hear" and self.heard < len(self.given)
        self.told += told
        self.done += 1
        self.single += 1
        self.last = None
        self.behind((number,), before)

    def kept(self):
        return [(place, self.blocks[place][0]) for place in sorted(self.blocks)]

    def counts(self):
        """But for the host rows."""
        return (self.single, self.entries, self.by_bindings, self.made)


class Running(Same):

    def runs(self, state, policy, given=(), bells=(), ring=0, most=400):
        """A runner, run to the bound, that tells what the plain run tells, and whose blocks are those of the model."""
        runner = Runner(state, list(given), list(bells), ring, list(policy))
        self.tells(runner, state, given, bells, ring, most)
        model = Model(state, tuple(given), tuple(bells), ring, tuple(policy))
        model.run(most)
        self.same(runner.kept(), model.kept())
        self.assertEqual(runner.counts()[1:], model.counts())
        return runner

    def tells(self, runner, state, given, bells, ring, most):
        """Run to the bound the runner tells what the plain run tells."""
        told = runner.run(most)
        self.same(told, run(state, list(given), list(bells), ring, most))
        self.same(runner.state(), told[1])
        counts = runner.counts()
        self.assertTrue(all([type(count) is int for count in counts]) and len(counts) == 5)
        # Entries' rows and single rows are all rows done.
        self.assertTrue(counts[1] <= told[3])
        for place, rows in runner.kept():
            self.assertEqual(block_at(told[1], place, len(rows)), rows)

    def in_all_ways(self, state, given=(), bells=(), ring=0, most=60):
        """With policies of many kinds."""
        policies = [(), (0,)]
        for rows in (1, 2, 3, 4, 16):
            for short, hands, throws in ((0, 3, 0), (1, 3, 0), (0, 16, 1), (1, 16, 0), (1, 5, 1)):
                policies.append((digits(rows=rows, short=short, hands=hands, throws=throws, binds=1),))
        policies += [(digits(rows=3), 0, digits(rows=2, short=1)), (0, digits(rows=16)), (-1, 5, 10 ** 60 - 1)]
        for policy in policies:
            with self.subTest(policy=policy, bells=bells):
                self.runs(state, policy, given, bells, ring, most)


# A loop that adds box 2 to box 1 and tells it, five times, and then halts.
LOOP = ("put 2 0 1", "put 3 0 5", "add 1 1 2", "tell 1 0 0", "sub 4 3 1", "when 1 0 28", "halt 0 0 0")


class Runs(Running):
    """Points 24 and 25: what is told is what the plain run tells."""

    def test_a_loop(self):
        self.in_all_ways(state_of(*LOOP))
        runner = self.runs(state_of(*LOOP), [digits()])
        self.assertEqual(runner.run()[:1] + runner.run()[2:], ("halt", (1, 2, 3, 4, 5), 22, 0, 0))

    def test_no_policy(self):
        runner = self.runs(state_of(*LOOP), [])
        self.same(runner.kept(), [])
        self.same(runner.counts(), (0, 22, 0, 0, 0))

    def test_a_program_that_writes_over_the_row_behind(self):
        # Cell 2 becomes what cell 7 holds, tell of box 2, in the block that is being done.
        state = state_of("get 1 0 7", "set 1 0 2", "tell 1 0 0", "halt 0 0 0", *["cell 0"] * 3, "tell 2 0 0")
        self.in_all_ways(state)
        runner = self.runs(state, [digits()])
        self.assertEqual(runner.run()[2], (0,))

    def test_a_program_that_writes_over_a_row_ahead_in_a_loop(self):
        # Cell 1, a put, grows by 1 each time until it is put 3 0 40.
        state = state_of("get 1 0 1", "put 3 0 36", "add 1 1 2", "set 1 0 1", "tell 3 0 0", "sub 5 3 4", "when 1 0 25",
                         "halt 0 0 0", boxes=(0, 0, 1, 0, 40, 0, 0, 0))
        self.in_all_ways(state)

    def test_a_cells_own_number_again(self):
        # The page is shut although nothing is another; the block that wrote it, and others of its page, go.
        state = state_of("get 1 0 0", "set 1 0 0", "tell 1 0 0", "jump 0 0 28")
        self.in_all_ways(state)
        runner = Runner(state, [], [], 0, [digits()])
        runner.run(2)
        self.assertEqual(runner.kept(), [])
        runner = Runner(state, [], [], 0, [digits(rows=1), 0, 0])
        runner.run(1)
        self.assertEqual(runner.kept(), [(0, state[5][:1])])
        # The set is done as a single row now.
        runner.run(2)
        self.assertEqual(runner.kept(), [])

    def test_a_write_into_another_page(self):
        # Blocks of page 0 and page 1; a set into page 2, then into page 1.
        rows = ["put 1 0 3", "jump 0 0 38"] + ["halt 0 0 0"] * 6
        rows += ["set 1 0 20", "set 1 0 15", "tell 1 0 0", "halt 0 0 0"] + ["cell 0"] * 12
        state = state_of(*rows)
        self.in_all_ways(state)
        runner = Runner(state, [], [], 0, [digits()])
        runner.run(3)
        self.assertEqual([place for place, rows in runner.kept()], [0, 8])
        runner.run(4)
        self.assertEqual([place for place, rows in runner.kept()], [0])
        runner.run()
        self.assertEqual([place for place, rows in runner.kept()], [0, 10])

    def test_a_write_in_the_first_and_the_last_cell_of_a_page(self):
        for address, goes in ((7, False), (8, True), (15, True), (16, False)):
            # The block at 8 is kept; then a set by a single row or by a block of page 3.
            rows = ["jump 0 0 39"] + ["cell 0"] * 7 + ["tell 1 0 0", "jump 0 0 46"] + ["cell 0"] * 14
            rows += [f"set 1 0 {address}", "halt 0 0 0"]
            for policy in ([0, digits(), 0], [0, digits(), digits()], [digits(rows=1)]):
                runner = self.runs(state_of(*rows), policy)
                self.assertEqual(8 in [place for place, rows in runner.kept()], not goes, (address, policy))

    def test_a_right_that_takes_4(self):
        # Page 1 is run, then its right to be run is taken; then it is gone to.
        for rights, goes in ((3, True), (0, True), (2, True), (4, False), (7, False), (5, False)):
            rows = ["jump 0 0 39", f"right 1 0 {rights}", "jump 0 0 37"] + ["cell 0"] * 5
            state = state_of(*rows, "tell 1 0 0", "jump 0 0 23", boxes=(0, 1, 0, 0, 0, 0, 0, 0))
            self.in_all_ways(state, most=30)
            for policy in ([digits()], [0, digits(), 0], [digits(rows=1)]):
                runner = Runner(state, [], [], 0, policy)
                told = runner.run(4)
                self.assertEqual(told, run(state, [], [], 0, 4))
                self.assertEqual(8 in [place for place, rows in runner.kept()], not goes)
                self.assertEqual(runner.run(6)[0], "closed" if goes else "more")

    def test_a_right_of_a_page_that_had_not_4(self):
        state = state_of("right 1 0 3", "tell 1 0 0", "jump 0 0 29", *["cell 0"] * 8, boxes=(0, 1, 0, 0, 0, 0, 0, 0),
                         rights=(7, 3))
        runner = self.runs(state, [digits()], most=9)
        self.assertEqual([place for place, rows in runner.kept()], [0, 1])

    def test_the_right_to_be_run_taken_from_its_own_page(self):
        state = state_of("tell 1 0 0", "right 0 0 3", "tell 1 0 0", "halt 0 0 0")
        self.in_all_ways(state)
        runner = self.runs(state, [digits()])
        self.assertEqual(runner.run()[0], "closed")
        self.assertEqual(runner.kept(), [])

    def test_a_right_that_faults(self):
        state = state_of("put 1 0 1", "right 1 0 0", "halt 0 0 0")
        self.in_all_ways(state)
        self.assertEqual(self.runs(state, [digits()]).run()[0], "closed")

    def test_faults_within_a_block(self):
        for row, how in (("div 1 2 0", "nought"), ("get 1 7 0", "closed"), ("set 1 7 0", "closed"),
                         ("bad 0 0 0", "bad"), ("halt 0 0 0", "halt"), ("back 0 0 0", "bad"), ("go 7 0 0", "closed")):
            state = state_of("put 2 0 3", "tell 2 0 0", row, "tell 1 0 0", "halt 0 0 0",
                             boxes=(0, 0, 0, 0, 0, 0, 0, 65535))
            with self.subTest(row=row):
                self.in_all_ways(state, bells=(), most=9)
                runner = self.runs(state, [digits()])
                self.assertEqual((runner.run()[0], runner.run()[3]), (how, 3 if row[:2] == "go" else 2))

    def test_a_closed_place(self):
        state = state_of("tell 1 0 0", "jump 0 0 50")
        self.in_all_ways(state)
        self.in_all_ways(altered(state, rights=(3,)))
        self.in_all_ways(altered(state, place=500))
        self.in_all_ways(state_of())

    def test_hear_and_tell(self):
        state = state_of("hear 1 0 0", "tell 1 0 0", "hear 2 0 0", "tell 2 0 0", "add 3 1 2", "tell 3 0 0",
                         "jump 0 0 25")
        for given in ((), (5,), (5, 6), (5, 6, 7), (5, 6, 7, 8, 9, 10, 11)):
            self.in_all_ways(state, given=given, most=33)

    def test_bells_before_within_and_behind_a_block(self):
        rows = ["put 1 0 1", "put 2 0 2", "add 3 3 1", "tell 3 0 0", "jump 0 0 27"] + ["cell 0"] * 3
        rows += ["tell 7 0 0", "add 7 7 1", "back 0 0 0"]
        for bells in ((0,), (1,), (2,), (3,), (4,), (5,), (6,), (0, 1), (2, 3, 4), (0, 5, 10),
                      (0, 1, 2, 3, 4, 5, 6, 7, 8), (9, 17, 18), (30,), (29,), (500,)):
            self.in_all_ways(state_of(*rows), bells=bells, ring=8, most=30)

    def test_bells_with_something_saved(self):
        rows = ["put 1 0 1", "tell 1 0 0", "sub 2 1 2", "back 0 0 0"] + ["tell 2 0 0"] * 4
        for saved in (None, (4, (True, False, True)), (0, (True, True, True))):
            for bells in ((), (0,), (1, 2), (3, 5), (0, 1, 2, 3, 4, 5, 6, 7)):
                self.in_all_ways(state_of(*rows, saved=saved), bells=bells, ring=1, most=20)

    def test_a_bell_whose_place_is_closed(self):
        state = state_of("tell 1 0 0", "tell 2 0 0", "jump 0 0 29")
        for ring in (8, 100, 65535):
            for bells in ((0,), (2,), (3,)):
                self.in_all_ways(state, bells=bells, ring=ring, most=12)

    def test_a_bell_due_at_the_bound_does_not_ring(self):
        state = state_of("tell 1 0 0", "tell 2 0 0", "jump 0 0 29", *["cell 0"] * 5, "back 0 0 0")
        for most in range(8):
            for bell in range(8):
                self.in_all_ways(state, bells=(bell,), ring=8, most=most)

    def test_bounds_of_every_kind(self):
        for most in (0, 1, 2, 3, 4, 5, 6, 7, 22, 23, 24, 1000):
            self.in_all_ways(state_of(*LOOP), most=most)

    def test_most_is_400_where_none_is_told(self):
        state = state_of("jump 0 0 31")
        for policy in ([], [digits()]):
            self.same(Runner(state, [], [], 0, policy).run(), run(state, [], [], 0, 400))

    def test_a_thousand_rows(self):
        state = state_of("add 1 1 2", "tell 1 0 0", "set 1 0 9", "jump 0 0 28", *["cell 0"] * 8,
                         boxes=(0, 0, 3) + (0,) * 5)
        for policy in ([], [digits()], [digits(throws=1, rows=2), digits(rows=1)]):
            self.runs(state, policy, bells=(10, 500, 900), ring=1, most=1000)


class InParts(Running):
    """Points 24 and 25: however the bounds come, with offers and throws between."""

    def test_in_many_parts(self):
        for policy in ([], [digits()], [digits(rows=3, binds=1)], [digits(rows=2, throws=1)]):
            for step in (1, 2, 3, 5, 7):
                runner = Runner(state_of(*LOOP), [], [4, 9], 4, policy)
                for most in list(range(0, 30, step)) + [30]:
                    self.tells(runner, state_of(*LOOP), (), (4, 9), 4, most)

    def test_a_bound_below_what_is_done(self):
        for policy in ([], [digits()]):
            runner = Runner(state_of(*LOOP), [], [], 0, policy)
            told = runner.run(10)
            for most in (0, 1, 9, 10):
                self.same(runner.run(most), told)
            self.same(runner.run(12), run(state_of(*LOOP), [], [], 0, 12))

    def test_behind_a_run_that_has_ended_the_same_again(self):
        for row in ("halt 0 0 0", "bad 0 0 0", "div 1 2 3", "get 1 7 60", "back 0 0 0", "jump 0 0 50"):
            for policy in ([], [digits()], [digits(rows=1)]):
                state = state_of("tell 1 0 0", row)
                runner = Runner(state, [], [0], 0, policy)
                told = runner.run(50)
                self.assertNotEqual(told[0], "more")
                counts = runner.counts()
                for most in (50, 0, 1, 1000, 400):
                    self.same(runner.run(most), told)
                self.assertEqual(runner.counts(), counts)
                runner.throw(0)
                self.same(runner.run(60), told)

    def test_offers_between(self):
        state = state_of(*LOOP)
        runner = Runner(state, [], [], 0, [])
        self.assertIsNone(runner.offer(*offer_of(state, 2, 4)))
        self.same(runner.kept(), [(2, state[5][2:6])])
        self.tells(runner, state, (), (), 0, 12)
        self.assertEqual(runner.counts()[1:], (2 + 2, 2, 0, 0))
        runner.offer(*offer_of(state, 4, 9))
        runner.offer(*offer_of(state, 2, 1))
        self.same(runner.kept(), [(2, state[5][2:3]), (4, state[5][4:6])])
        self.tells(runner, state, (), (), 0, 400)

    def test_an_offer_refused(self):
        state = state_of(*LOOP)
        runner = Runner(state, [], [], 0, [])
        block, paper, host = offer_of(state, 2, 4)
        for other in ((block, ((), ()), host), (changed(block, (0,), 3), paper, host),
                      (block, paper, changed(host, (1,), 2)), offer_of(state_of("tell 1 0 0", *LOOP), 2, 3)):
            with self.assertRaises(NoPaper):
                runner.offer(*other)
        self.same(runner.kept(), [])
        runner.offer(block, paper, host)
        with self.assertRaises(NoPaper):
            runner.offer(block, paper, changed(host, (1,), 2))
        self.same(runner.kept(), [(2, block[1])])
        self.tells(runner, state, (), (), 0, 400)

    def test_an_offer_of_rows_that_are_no_more_in_the_cells(self):
        state = state_of("get 1 0 7", "set 1 0 2", "tell 1 0 0", "halt 0 0 0", *["cell 0"] * 3, "tell 2 0 0")
        runner = Runner(state, [], [], 0, [])
        offer = offer_of(state, 2, 2)
        runner.offer(*offer)
        runner.run(2)
        self.same(runner.kept(), [])
        with self.assertRaises(NoPaper):
            runner.offer(*offer)
        runner.offer(*offer_of(runner.state(), 2, 2))
        self.tells(runner, state, (), (), 0, 400)

    def test_a_block_made_by_others_is_entered(self):
        # The paper that keeps all, many hands, and where the policy would make another.
        state = state_of(*LOOP)
        plain = lead(0, state[5][:3])
        runner = Runner(state, [], [], 0, [digits(rows=1)])
        runner.offer(plain, keeping_all(plain), deal(plain, 16))
        self.tells(runner, state, (), (), 0, 3)
        self.assertEqual(runner.counts()[1:], (0, 1, 0, 0))
        self.assertEqual(runner.counts()[0], do_host(deal(plain, 16), state, [], ())[5])

    def test_throws_between(self):
        state = state_of(*LOOP)
        runner = Runner(state, [], [], 0, [digits(rows=2)])
        for most in range(0, 26, 2):
            self.tells(runner, state, (), (), 0, most)
            places = [place for place, rows in runner.kept()]
            for place in places[::2]:
                self.same(runner.throw(place), 1)
                self.same(runner.throw(place), 0)
            self.assertEqual([place for place, rows in runner.kept()], places[1::2])
            self.same(runner.throw(100), 0)


class Policies(Running):
    """Point 24: each digit that the policy's numbers have."""

    def test_where_d_at_4_is_nought_nothing_is_made(self):
        for number in (0, 4, 60, 64, 2048, 8192, 10 ** 59, -4, -64, -8192, -(10 ** 59)):
            runner = self.runs(state_of(*LOOP), [number])
            self.same(runner.counts(), (0, 22, 0, 0, 0))
            self.same(runner.kept(), [])

    def test_else_one_is_made(self):
        for makes in (1, 2, 3):
            runner = self.runs(state_of(*LOOP), [digits(makes=makes)])
            self.assertEqual(runner.counts()[1:], (0, 6, 0, 3))

    def test_the_bound_of_rows(self):
        state = state_of(*["add 1 1 2"] * 31, "halt 0 0 0")
        for rows in range(1, 17):
            runner = self.runs(state, [digits(rows=rows), 0], most=rows)
            self.same(runner.kept(), [(0, state[5][:rows])])

    def test_shortened_or_plain_and_how_many_hands(self):
        state = state_of("get 1 0 4", "get 2 0 4", "put 3 0 0", "add 4 1 3", "sub 5 1 2", "mul 6 4 5", "get 7 0 4",
                         "set 4 0 30", "tell 6 0 0", "add 2 6 7", "mul 3 2 6", "halt 0 0 0", *["cell 0"] * 20)
        rows = state[5][:12]
        for short in (0, 1):
            block = shorten(0, rows)[0] if short else lead(0, rows)
            for hands in range(3, 17):
                host = deal(block, hands)
                runner = self.runs(state, [digits(short=short, hands=hands)])
                self.assertEqual(runner.counts(), (do_host(host, state, [], ())[5], 0, 1, 0, 1))
                self.assertEqual(runner.keeper.host_at(0), host)

    def test_all_kept_ones_thrown_out(self):
        state = state_of("tell 1 0 0", "tell 2 0 0", "tell 3 0 0", "tell 4 0 0", "halt 0 0 0")
        for throws in (0, 1, 2, 3):
            runner = self.runs(state, [digits(rows=1), digits(rows=1), digits(rows=1, throws=throws)] + [0] * 9)
            self.assertEqual([place for place, rows in runner.kept()], [2] if throws == 1 else [0, 1, 2])

    def test_nothing_is_thrown_out_where_nothing_is_made(self):
        state = state_of("tell 1 0 0", "tell 2 0 0", "tell 3 0 0", "halt 0 0 0")
        runner = self.runs(state, [digits(rows=1), digits(makes=0, throws=1)])
        self.assertEqual([place for place, rows in runner.kept()], [0, 2])
        # There is no block at a closed place.
        runner = self.runs(state_of("tell 1 0 0", "jump 0 0 60"), [digits(), digits(throws=1)])
        self.assertEqual(runner.run()[0], "closed")
        self.assertEqual([place for place, rows in runner.kept()], [0])

    def test_numbers_from_the_first_again_behind_the_last(self):
        state = state_of(*["tell 1 0 0"] * 31, "halt 0 0 0")
        runner = self.runs(state, [digits(rows=2), 0, digits(rows=3)], most=24)
        self.assertEqual([(place, len(rows)) for place, rows in runner.kept()],
                         [(0, 2), (3, 3), (6, 2), (9, 3), (12, 2), (15, 3), (18, 2), (21, 3)])

    def test_a_number_is_used_up_only_where_no_block_is_kept(self):
        state = state_of("tell 1 0 0", "jump 0 0 30", *["halt 0 0 0"] * 6)
        runner = self.runs(state, [digits(rows=2), digits(rows=1)], most=20)
        self.assertEqual(runner.counts()[1:], (0, 10, 0, 1))

    def test_numbers_below_nought_and_of_sixty_figures(self):
        state = state_of(*["add 1 1 2", "tell 1 0 0"] * 8, "jump 0 0 15")
        for number in (-1, -2, -3, -5, -63, -64, -2047, -2049, -8193, -(10 ** 60) + 1, 10 ** 60 - 1, 10 ** 59 + 7,
                       -(10 ** 59) - 7, 16384, 16385, 65535):
            runner = self.runs(state, [number], most=60)
            if number % 4:
                rows = (number // 4) % 16 + 1
                self.assertEqual(runner.kept()[0][1], state[5][:rows])
                made = shorten(0, state[5][:rows])[0] if (number // 64) % 2 else lead(0, state[5][:rows])
                if (number // 2048) % 4 != 1:
                    self.assertEqual(runner.keeper.host_at(0), deal(made, 3 + (number // 128) % 14))

    def test_made_but_no_room_to_enter(self):
        state = state_of(*["tell 1 0 0"] * 8)
        policy = [digits(rows=8)] + [0] * 20
        runner = self.runs(state, policy, most=5)
        self.same(runner.kept(), [(0, state[5])])
        self.same(runner.counts(), (0, 5, 0, 0, 1))
        runner = self.runs(state, policy, bells=(5,), ring=1, most=8)
        self.assertEqual(runner.counts()[1:], (8, 0, 0, 1))
        # With room for all its rows, no more.
        for bells, most in (((), 8), ((8,), 100), ((8,), 8), ((0, 3), 8)):
            runner = self.runs(state, policy, bells=bells, ring=0, most=most)
            self.assertEqual(runner.counts()[2:], (1 + (bells == (8,) and most == 100), 0, 1))


class Bindings(Running):
    """Points 24 and 27: blocks bound where they are left, and entries by bindings."""

    # Two blocks that jump to one another.
    STATE = state_of("tell 1 0 0", "jump 0 0 38", *["halt 0 0 0"] * 6, "tell 2 0 0", "jump 0 0 22")

    def test_two_that_are_left_for_one_another(self):
        runner = self.runs(self.STATE, [digits(binds=1)], most=40)
        # The first entry of each is not by a binding, nor is that of the other one, kept only then.
        self.assertEqual(runner.counts()[1:], (0, 20, 18, 2))

    def test_where_only_one_is_to_be_bound(self):
        runner = self.runs(self.STATE, [digits(binds=1), digits()], most=40)
        self.assertEqual(runner.counts()[1:], (0, 20, 9, 2))
        runner = self.runs(self.STATE, [digits(), digits(binds=1)], most=40)
        self.assertEqual(runner.counts()[1:], (0, 20, 9, 2))

    def test_where_none_is_to_be_bound(self):
        runner = self.runs(self.STATE, [digits()], most=40)
        self.assertEqual(runner.counts()[1:], (0, 20, 0, 2))

    def test_one_that_is_left_for_itself(self):
        state = state_of("tell 1 0 0", "jump 0 0 30")
        runner = self.runs(state, [digits(binds=1)], most=40)
        self.assertEqual(runner.counts()[1:], (0, 20, 19, 1))

    def test_not_behind_a_bell(self):
        state = state_of("tell 1 0 0", "jump 0 0 30", *["halt 0 0 0"] * 6)
        runner = self.runs(state, [digits(binds=1)], bells=(10,), ring=0, most=40)
        # The bell rings at an entry, and nothing else is another.
        self.assertEqual(runner.counts()[1:], (0, 20, 18, 1))

    def test_not_behind_a_single_row(self):
        state = state_of("tell 1 0 0", "tell 2 0 0", "jump 0 0 29")
        runner = self.runs(state, [digits(rows=1, binds=1)] + [0] * 59, most=30)
        self.assertEqual(runner.counts()[1:], (20, 10, 0, 1))
        # The two blocks are bound; a bound leads to a single row between them.
        state = state_of("tell 1 0 0", "jump 0 0 32", "tell 2 0 0", "jump 0 0 28")
        runner = Runner(state, [], [], 0, [digits(binds=1)] * 2 + [0] * 58)
        for most, counts in ((8, (0, 4, 2, 2)), (9, (1, 4, 2, 2)), (10, (2, 4, 2, 2)), (12, (2, 5, 2, 2)),
                             (14, (2, 6, 3, 2))):
            runner.run(most)
            self.assertEqual(runner.counts()[1:], counts)

    def test_not_behind_single_rows_that_come_to_the_same_place(self):
        state = state_of("tell 1 0 0", "jump 0 0 30")
        runner = Runner(state, [], [], 0, [digits(binds=1)] + [0] * 59)
        for most, counts in ((4, (0, 2, 1, 1)), (5, (1, 2, 1, 1)), (6, (2, 2, 1, 1)), (8, (2, 3, 1, 1)),
                             (10, (2, 4, 2, 1))):
            runner.run(most)
            self.assertEqual(runner.counts()[1:], counts)

    def test_in_another_run(self):
        state = state_of("tell 1 0 0", "jump 0 0 30")
        runner = Runner(state, [], [], 0, [digits(binds=1)])
        for most in range(2, 42, 2):
            runner.run(most)
        self.assertEqual(runner.counts()[1:], (0, 20, 19, 1))

    def test_a_run_of_no_rows_between(self):
        state = state_of("tell 1 0 0", "jump 0 0 30")
        runner = Runner(state, [], [], 0, [digits(binds=1)])
        runner.run(2)
        runner.run(2)
        runner.run(0)
        runner.run(4)
        self.assertEqual(runner.counts()[1:], (0, 2, 1, 1))

    def test_thrown_out_between(self):
        runner = Runner(self.STATE, [], [], 0, [digits(binds=1), digits(binds=1), 0])
        runner.run(8)
        self.assertEqual(runner.counts()[1:], (0, 4, 2, 2))
        # At 0 now, right behind the block at 8, which is bound to the one at 0.
        runner.throw(8)
        runner.run(10)
        self.assertEqual(runner.counts()[1:], (0, 5, 2, 2))

    def test_replaced_by_an_offer_between(self):
        for place in (0, 8):
            runner = Runner(self.STATE, [], [], 0, [digits(binds=1)])
            runner.run(8)
            runner.offer(*offer_of(self.STATE, place, 2))
            runner.run(10)
            self.assertEqual(runner.counts()[1:], (0, 5, 2, 2))

    def test_from_blocks_offered_by_others_nothing_is_bound(self):
        runner = Runner(self.STATE, [], [], 0, [digits(binds=1)])
        runner.offer(*offer_of(self.STATE, 0, 2))
        runner.offer(*offer_of(self.STATE, 8, 2))
        runner.run(40)
        self.assertEqual(runner.counts()[1:], (0, 20, 0, 0))
        # Nor from one that stands in the place of one that was to be bound; but to it.
        runner = Runner(self.STATE, [], [], 0, [digits(binds=1)])
        runner.run(8)
        runner.offer(*offer_of(self.STATE, 0, 2))
        runner.run(40)
        self.assertEqual(runner.counts()[1:], (0, 20, 2 + 7, 2))

    def test_left_as_shut(self):
        # The block at 8 writes into page 0, whose block goes; it stays itself, and goes on behind the set.
        state = state_of("tell 1 0 0", "jump 0 0 38", *["halt 0 0 0"] * 6, "set 7 0 7", "tell 2 0 0", "jump 0 0 21")
        runner = self.runs(state, [digits(binds=1)], most=70)
        # Of each of fourteen rounds: 0 made anew; 8 from there, and 9, for which 8 was left as shut, both by bindings
        # but the first time.
        self.assertEqual(runner.counts()[1:], (0, 42, 26, 16))

    def test_behind_what_is_left_as_shut_and_gone_itself(self):
        state = state_of("set 7 0 7", "tell 1 0 0", "jump 0 0 29")
        runner = self.runs(state, [digits(binds=1)], most=30)
        self.assertEqual(runner.counts()[3], 0)


class Counts(Running):
    """Point 27: the runner's counts."""

    def test_at_first(self):
        self.same(Runner(state_of(*LOOP), [], [], 0, [digits()]).counts(), (0, 0, 0, 0, 0))

    def test_an_entry_that_faults_at_its_first_row(self):
        state = state_of("div 1 2 3", "tell 1 0 0", "halt 0 0 0")
        runner = self.runs(state, [digits()])
        self.assertEqual(runner.counts()[1:], (0, 1, 0, 1))
        self.assertEqual(runner.counts()[0], do_host(deal(lead(0, state[5][:3]), 3), state, [], ())[5])
        runner = self.runs(state_of("halt 0 0 0"), [digits()])
        self.same(runner.counts(), (1, 0, 1, 0, 1))

    def test_a_single_row_that_faults_is_not_done(self):
        self.same(self.runs(state_of("halt 0 0 0"), [0]).counts(), (0, 0, 0, 0, 0))
        self.same(self.runs(state_of("tell 1 0 0", "div 1 2 3"), []).counts(), (0, 1, 0, 0, 0))

    def test_host_rows_of_each_entry(self):
        state = state_of(*LOOP)
        runner = Runner(state, [], [], 0, [digits(rows=3, short=1, hands=5)])
        rows = 0
        for most in (3, 6, 9):
            ahead = runner.state()
            block = shorten(ahead[0], block_at(ahead, ahead[0], 3))[0]
            rows += do_host(deal(block, 5), ahead, [], ())[5]
            runner.run(most)
            self.assertEqual(runner.counts()[0], rows)

    def test_entries_rows_and_single_rows_are_all_rows_done(self):
        # Three rows by a block, then the bound leaves two rows of the next one, and all of it.
        state = state_of(*["tell 1 0 0", "add 1 1 2", "jump 0 0 32"] * 2, "halt 0 0 0")
        runner = Runner(state, [], [], 0, [digits()])
        for most, counts in ((3, (0, 1, 0, 1)), (5, (2, 1, 0, 3)), (6, (2, 2, 0, 4)), (7, (2, 3, 0, 5))):
            runner.run(most)
            self.assertEqual(runner.counts()[1:], counts)


class Window(Running):
    """Point 26."""

    def test_beside_the_plain_one(self):
        rows = ["put 1 0 1", "put 2 0 2", "add 3 3 1", "tell 3 0 0", "jump 0 0 27"] + ["cell 0"] * 3
        rows += ["tell 7 0 0", "hear 7 0 0", "back 0 0 0"]
        for bells in ((), (0,), (3,), (5,), (0, 5, 8, 16), (30,)):
            for policy in ([], [digits()], [digits(rows=2), 0, digits(rows=4, short=1)]):
                for most in (0, 1, 5, 7, 30):
                    runner = Runner(state_of(*rows), [7, 8, 9], list(bells), 8, policy)
                    self.same(runner.window(), [state_of(*rows)])
                    told = runner.run(most)
                    states = window(state_of(*rows), [7, 8, 9], list(bells), 8, most)
                    self.same(runner.window(), states)
                    self.assertEqual(len(states), told[3] + 1)
                    self.same([runner.at(number) for number in range(told[3] + 1)], states)

    def test_beyond_what_was_done(self):
        for policy in ([], [digits()]):
            runner = Runner(state_of(*LOOP), [], [], 0, policy)
            self.same(runner.at(0), state_of(*LOOP))
            for most in (0, 5, 22, 400):
                done = runner.run(most)[3]
                for number in (done + 1, done + 2, 1000, -1, -2):
                    with self.assertRaises(NoStep):
                        runner.at(number)
                runner.at(done)
        self.assertEqual(NoStep.__bases__, (GuestError,))

    def test_ahead_of_a_bell_that_rings_then(self):
        # The bell rings at an entry, its place is closed: the run's state is behind it, the window's last ahead of it.
        state = state_of("tell 1 0 0", "jump 0 0 30")
        for policy in ([], [digits()]):
            runner = Runner(state, [], [4], 99, policy)
            told = runner.run()
            self.assertEqual((told[0], told[1][0], told[3], told[5]), ("closed", 99, 4, 1))
            self.same(runner.state(), told[1])
            self.same(runner.at(4), altered(state, place=0))
            self.same(runner.window()[-1], altered(state, place=0))

    def test_in_many_parts(self):
        for seed in range(40):
            state, given, bells, ring = busy_run(seed + 500)
            runner = Runner(state, given, bells, ring, some_policy(seed))
            for most in (0, 1, 3, 3, 10, 11, 30, 60):
                runner.run(most)
                self.same(runner.window(), window(state, given, bells, ring, most))


class ManyRuns(Running):
    """Points 1, 3 and 25: for every state, givens, bells, bounds and policies, and offers between."""

    def test_in_one_part(self):
        ends = {}
        for seed in range(500):
            state, given, bells, ring = busy_run(seed)
            most = (0, 1, 7, 50, 150)[seed % 5]
            with self.subTest(seed=seed):
                runner = self.runs(state, some_policy(seed), given, bells, ring, most)
                self.same(runner.window(), window(state, given, bells, ring, most))
            how = runner.run(most)[0]
            ends[how] = ends.get(how, 0) + 1
        self.assertEqual(sorted(ends), ["bad", "closed", "halt", "more", "nought"])

    def test_in_many_parts_with_offers_and_throws_between(self):
        entered = 0
        for seed in range(250):
            state, given, bells, ring = busy_run(seed + 9000)
            choices = Choices(seed)
            runner = Runner(state, given, bells, ring, some_policy(seed + 7))
            most = 0
            with self.subTest(seed=seed):
                while most < 120:
                    most += choices.of((0, 1, 2, 3, 7, 20, 60))
                    self.tells(runner, state, given, bells, ring, most)
                    self.offer_and_throw(runner, choices)
                self.same(runner.window(), window(state, given, bells, ring, most))
                for number in mixed(seed, 5):
                    number %= len(runner.window())
                    self.same(runner.at(number), runner.window()[number])
            entered += runner.counts()[2]
        self.assertGreater(entered, 1000)

    def offer_and_throw(self, runner, choices):
        for k in range(choices.below(3)):
            place = choices.below(len(runner.state()[5]))
            if choices.below(3) == 0:
                runner.throw(place)
            elif block_at(runner.state(), place) and choices.below(2):
                runner.offer(*offer_of(runner.state(), place, 1 + choices.below(60), 3 + choices.below(14)))
            elif block_at(runner.state(), place):
                # Made by others, in ways of their own.
                rows = block_at(runner.state(), place, 1 + choices.below(12))
                block, paper = Maker(place, rows, choices.below(1000)).make()
                runner.offer(block, paper, deal(block, 3 + choices.below(14)))


class OwnAffairs(Running):
    """Point 2."""

    def test_what_is_handed_in_stays_and_may_be_changed_behind(self):
        handed = [state_of("hear 1 0 0", "tell 1 0 0", "jump 0 0 29"), [5, 6, 7], [4, 9], 1, [digits(), 0]]
        before = copy.deepcopy(handed)
        runner = Runner(*handed)
        handed[1].append(8)
        handed[1][0] = 9
        handed[2].clear()
        handed[4][0] = 0
        other = Runner(*before)
        self.same(runner.run(30), other.run(30))
        self.assertEqual(runner.counts(), other.counts())
        self.same(runner.run(30), run(*before[:4], 30))
        self.assertEqual(before[1:], [[5, 6, 7], [4, 9], 1, [digits(), 0]])

    def test_what_is_told_is_the_askers_own(self):
        runner = Runner(state_of(*LOOP), [], [], 0, [digits(rows=2)])
        first = runner.run(5)
        kept = copy.deepcopy(runner.kept())
        runner.kept().clear()
        runner.window().clear()
        self.assertEqual(runner.kept(), kept)
        self.assertEqual(len(runner.window()), 6)
        states = runner.window()
        before = copy.deepcopy((first, states))
        runner.run()
        self.assertEqual((first, states), before)

    def test_two_runners(self):
        first = Runner(state_of(*LOOP), [], [], 0, [digits()])
        second = Runner(state_of(*LOOP), [], [], 0, [])
        first.run()
        self.assertEqual((second.kept(), second.counts()), ([], (0, 0, 0, 0, 0)))
        self.same(second.window(), [state_of(*LOOP)])
        second.run(3)
        self.assertEqual(first.run()[3], 22)

    def test_the_same_again(self):
        for seed in range(10):
            state, given, bells, ring = busy_run(seed)
            runners = [Runner(state, given, bells, ring, some_policy(seed)) for k in range(2)]
            self.same(runners[0].run(90), runners[1].run(90))
            self.assertEqual(runners[0].counts(), runners[1].counts())
            self.assertEqual(runners[0].kept(), runners[1].kept())


if __name__ == "__main__":
    unittest.main()
