"""Points 2 and 28: asitruns.whole."""

import unittest

from asitruns.errors import GuestError, NoAsk, NoStep
from asitruns.guest.rows import read
from asitruns.guest.runs import run, window
from asitruns.guest.steps import begin
from asitruns.keeper.runner import Runner
from asitruns.whole import Desk
from helper import Same, mixed

# Tells 1 to 5, and then halts; then what it hears, until 0 is heard.
LOOP = "put 2 0 1;put 3 0 5;add 1 1 2;tell 1 0 0;sub 4 3 1;when 1 0 28;halt 0 0 0"
ECHO = "hear 1 0 0;tell 1 0 0;jump 0 0 29;halt 0 0 0;halt 0 0 0;halt 0 0 0;halt 0 0 0;halt 0 0 0;tell 7 0 0;back 0 0 0"

# Makes of all rows of a block, plain, for 3 hands; and one that binds besides.
MAKE = 1 + 15 * 4
BIND = MAKE + 8192

# A line for each word that is asked.
LINES = ("cells tell 1 0 0", "rights 0 7", "given 5 6", "bells 3 4", f"policy {BIND}", "run 3", "state", "kept", "at 0",
         "counts", "throw 0")


def state_of(rows, rights=None):
    """The state that a desk has behind cells with these rows."""
    cells = read(rows.replace(";", "\n"))
    cells += (0,) * (-len(cells) % 8)
    return begin(cells, rights or (7,) * (len(cells) // 8))


def shown(state):
    """A state as it is told."""
    numbers = (state[0],) + state[1] + tuple([int(mark) for mark in state[2]])
    return " ".join([str(number) for number in numbers])


class Asking(Same):

    def desk(self, *lines):
        """A desk behind these asks, which are answered with no text."""
        desk = Desk()
        for line in lines:
            self.same(desk.ask(line), [])
        return desk

    def asks(self, desk, line, *texts):
        self.same(desk.ask(line), list(texts))

    def all_of(self, desk):
        """All that a desk tells without being changed."""
        states = []
        for number in range(40):
            try:
                states.append(desk.ask(f"at {number}"))
            except NoStep:
                break
        return (desk.ask("state"), desk.ask("kept"), desk.ask("counts"), states)

    def refuses(self, desk, *lines, error=NoAsk):
        """Each of the lines is refused, and nothing changes."""
        for line in lines:
            before = self.all_of(desk)
            with self.subTest(line=line):
                with self.assertRaises(error):
                    desk.ask(line)
                self.assertEqual(self.all_of(desk), before)


class Asks(Asking):
    """Point 28: each ask with its answer."""

    def test_at_first(self):
        desk = Desk()
        self.asks(desk, "state", "0 0 0 0 0 0 0 0 0 0 0 0")
        self.asks(desk, "kept")
        self.asks(desk, "counts", "0 0 0 0 0")
        self.asks(desk, "at 0", "0 0 0 0 0 0 0 0 0 0 0 0")
        self.asks(desk, "throw 0", "0")
        self.asks(desk, "run 5", "halt")
        self.asks(desk, "counts", "0 0 0 0 0")

    def test_at_first_there_is_one_page(self):
        desk = Desk()
        self.asks(desk, "rights 0 0")
        self.refuses(desk, "rights 1 7")
        self.asks(desk, "run 5", "closed")

    def test_cells(self):
        desk = self.desk("cells " + LOOP)
        self.asks(desk, "run 400", "halt", "1", "2", "3", "4", "5")
        self.asks(desk, "state", shown(run(state_of(LOOP), [], [], 0)[1]))

    def test_cells_by_cell_and_a_number(self):
        desk = self.desk("cells cell 4613;cell 49664;cell 0")
        self.asks(desk, "run 9", "halt", "5")

    def test_cells_are_filled_up_by_nought(self):
        for many in (1, 7, 8, 9, 16, 17):
            desk = self.desk("cells " + ";".join(["tell 1 0 0"] * many))
            pages = (many + 7) // 8
            self.asks(desk, f"rights {pages - 1} 7")
            self.refuses(desk, f"rights {pages} 7")
            # The cell behind the last row is 0, halt, or there is none.
            self.asks(desk, "run 400", "halt" if many % 8 else "closed", *["0"] * many)
            self.asks(desk, f"at {many}", f"{many} 0 0 0 0 0 0 0 0 0 0 0")

    def test_all_rights_are_7(self):
        desk = self.desk("cells get 1 0 15;set 1 0 8;put 2 0 1;right 2 0 0;tell 1 0 0" + ";halt 0 0 0" * 3 + ";cell 3")
        self.asks(desk, "run 400", "halt", "0")

    def test_one_row_and_128_and_129(self):
        for many, is_let in ((1, True), (128, True), (129, False), (130, False)):
            line = "cells " + ";".join(["tell 1 0 0"] * many)
            if is_let:
                desk = self.desk(line)
                self.asks(desk, f"run {many}", "more", *["0"] * many)
            else:
                self.refuses(self.desk("cells " + LOOP), line)
        desk = self.desk("cells " + ";".join(["halt 0 0 0"] * 128))
        self.asks(desk, "rights 15 3")
        self.refuses(desk, "rights 16 3")

    def test_cells_that_are_none(self):
        desk = self.desk("cells " + LOOP)
        desk.ask("run 3")
        self.refuses(desk, "cells", "cells ", "cells  tell 1 0 0", "cells tell 1 0 0 ", "cells tell 1 0 0;",
                     "cells ;tell 1 0 0", "cells tell 1 0 0;;tell 1 0 0", "cells tell 1 0 0; tell 1 0 0",
                     "cells tell 1 0 0 ;tell 1 0 0",
                     "cells tell 8 0 0", "cells tell 1 8 0", "cells tell 1 0 64", "cells tell 1 0", "cells tell 01 0 0",
                     "cells tell 1 0 0,tell 1 0 0", "cells cell 65536", "cells cell", "cells cell 01", "cells cell -1",
                     "cells tell 1 0 0\ntell 1 0 0", "cells tell 1 0 0\n", "cells\ntell 1 0 0", "cells TELL 1 0 0",
                     "cells;halt 0 0 0", "cells tell  1 0 0", "cell 0", "Cells halt 0 0 0", " cells halt 0 0 0",
                     "cells halt 0 0 0;halt")

    def test_cells_at_any_time(self):
        desk = self.desk("cells " + ECHO, "given 5 6", "bells 8 2", f"policy {BIND}", "rights 1 4")
        desk.ask("run 9")
        self.assertNotEqual(desk.ask("kept"), [])
        self.asks(desk, "cells " + ECHO)
        # Nothing kept, no givens, no bells, no policy, all rights 7.
        self.asks(desk, "kept")
        self.asks(desk, "counts", "0 0 0 0 0")
        self.asks(desk, "state", "0 0 0 0 0 0 0 0 0 0 0 0")
        self.asks(desk, "run 6", "more", "0", "0")
        self.asks(desk, "counts", "0 6 0 0 0")
        self.refuses(desk, "at 7", error=NoStep)
        # Behind it all may be set again.
        self.desk_sets(self.desk("cells " + ECHO))

    def desk_sets(self, desk):
        for line in ("rights 0 7", "given 1", "bells 8 1", "policy 61"):
            self.asks(desk, line)

    def test_cells_behind_a_run_that_has_ended(self):
        desk = self.desk("cells halt 0 0 0")
        self.asks(desk, "run 1", "halt")
        self.asks(desk, "cells tell 1 0 0")
        self.desk_sets(desk)
        self.asks(desk, "run 1", "more", "0")

    def test_rights(self):
        desk = self.desk("cells " + "get 1 0 8;tell 1 0 0;halt 0 0 0" + ";cell 9" * 8)
        self.asks(desk, "rights 1 6")
        self.asks(desk, "rights 0 4")
        self.asks(desk, "run 9", "closed")
        for right in range(8):
            desk = self.desk("cells " + "get 1 0 8;tell 1 0 0;halt 0 0 0" + ";cell 9" * 8, f"rights 1 {right}")
            self.asks(desk, "run 9", *(("halt", "9") if right % 2 else ("closed",)))

    def test_rights_that_are_none(self):
        desk = self.desk("cells " + ";".join(["tell 1 0 0"] * 20))
        self.refuses(desk, "rights 3 7", "rights 4 0", "rights 65535 0", "rights 0 8", "rights 0 65535", "rights 0",
                     "rights", "rights 0 0 0", "rights 0 -1", "rights -1 0", "rights 00 7", "rights 0 07",
                     "rights  0 7", "rights 0 7 ", "rights 0 +7", "rights 65536 7", "rights 0 7\n", "rights 0,7",
                     "rights a 7")
        self.asks(desk, "rights 2 0")
        self.asks(desk, "run 400", "closed", *["0"] * 16)

    def test_given(self):
        desk = self.desk("cells " + ECHO, "given 5 65535 0 7")
        self.asks(desk, "run 15", "more", "5", "65535", "0", "7", "0")
        desk = self.desk("cells " + ECHO, "given 5 6", "given 8")
        self.asks(desk, "run 6", "more", "8", "0")
        desk = self.desk("cells " + ECHO, "given 5 6", "given")
        self.asks(desk, "run 6", "more", "0", "0")

    def test_sixty_and_sixty_one(self):
        numbers = [str(number) for number in range(100, 161)]
        desk = self.desk("cells " + ECHO, "given " + " ".join(numbers[:60]))
        self.refuses(desk, "given " + " ".join(numbers))
        self.asks(desk, "run 180", "more", *numbers[:60])
        desk = self.desk("cells jump 0 0 31", "bells 0 " + " ".join([str(number) for number in range(60)]))
        self.refuses(desk, "bells 0 " + " ".join([str(number) for number in range(61)]))
        desk = self.desk("cells " + LOOP, "policy " + " ".join(["61"] * 60))
        self.refuses(desk, "policy " + " ".join(["61"] * 61))
        self.asks(desk, "run 22", "more", "1", "2", "3", "4", "5")
        self.assertNotEqual(desk.ask("kept"), [])

    def test_bells(self):
        desk = self.desk("cells " + ECHO, "given 5 6 7", "bells 8 0 4 5")
        asked = run(state_of(ECHO), [5, 6, 7], [0, 4, 5], 8, 20)
        self.asks(desk, "run 20", "more", *[str(number) for number in asked[2]])
        self.asks(desk, "state", shown(asked[1]))
        # A place alone: no bells.
        desk = self.desk("cells " + ECHO, "bells 8 0 4 5", "bells 9")
        self.asks(desk, "run 6", "more", "0", "0")
        desk = self.desk("cells " + ECHO, "bells 65535 65535")
        self.asks(desk, "run 6", "more", "0", "0")
        desk = self.desk("cells " + ECHO, "bells 65535 1")
        self.asks(desk, "run 6", "closed")

    def test_bells_that_are_none(self):
        desk = self.desk("cells " + ECHO, "bells 8 3")
        self.refuses(desk, "bells", "bells ", "bells 8 3 3", "bells 8 4 3", "bells 8 0 0", "bells 8 1 2 2",
                     "bells 8 1 3 2 4", "bells 65536", "bells 8 65536", "bells -1 3", "bells 8 -1", "bells 08 3",
                     "bells 8 03", "bells 8  3", "bells 8 3 ", "bells 8 3\n", "bells 8 +3", "bells 8 3,4")
        asked = run(state_of(ECHO), [], [3], 8, 12)
        self.asks(desk, "run 12", "more", *[str(number) for number in asked[2]])
        self.asks(desk, "at 3", shown(window(state_of(ECHO), [], [3], 8, 12)[3]))

    def test_policy(self):
        desk = self.desk("cells " + LOOP, f"policy {MAKE} 0")
        desk.ask("run 400")
        runner = Runner(state_of(LOOP), [], [], 0, [MAKE, 0])
        runner.run(400)
        self.asks(desk, "counts", " ".join([str(count) for count in runner.counts()]))
        self.asks(desk, "kept", *[f"{place} {len(rows)}" for place, rows in runner.kept()])
        desk = self.desk("cells " + LOOP, f"policy {MAKE}", "policy")
        desk.ask("run 400")
        self.asks(desk, "counts", "0 22 0 0 0")

    def test_numbers_that_are_none(self):
        desk = self.desk("cells " + ECHO, "given 5")
        for word in ("given", "policy"):
            self.refuses(desk, word + " 65536", word + " -1", word + " 05", word + " 5 ", word + "  5", word + " 5  6",
                         word + " 5,6", word + " a", word + " 1 2 3 65536", word + " +5", word + " 5\n", word + " ",
                         word + " 5.0", word + " 1_0", word + " 99999999999999999999", word + " " + "1" * 3000)
        self.asks(desk, "run 3", "more", "5")

    def test_run(self):
        desk = self.desk("cells " + LOOP)
        self.asks(desk, "run 3", "more")
        self.asks(desk, "run 1", "more", "1")
        self.asks(desk, "run 0", "more")
        self.asks(desk, "run 8", "more", "2", "3")
        self.asks(desk, "run 65535", "halt", "4", "5")
        for number in (0, 1, 5, 65535):
            self.asks(desk, f"run {number}", "halt")
        self.refuses(desk, "at 23", error=NoStep)

    def test_run_that_is_none(self):
        desk = self.desk("cells " + LOOP)
        self.refuses(desk, "run", "run ", "run -1", "run 01", "run 1 1", "run  1", " run 1", "run 1 ", "run 65536",
                     "run x", "run 1\n", "\nrun 1", "Run 1", "RUN 1", "run1", "run +1", "run 1.", "runs 1", "")
        # None of them was a run.
        self.asks(desk, "given 1")

    def test_a_thousand_rows_in_all(self):
        for policy in ("policy", f"policy {MAKE}"):
            desk = self.desk("cells tell 1 0 0;jump 0 0 30", policy)
            self.asks(desk, "run 990", "more", *["0"] * 495)
            self.asks(desk, "run 15", "more", *["0"] * 5)
            self.asks(desk, "run 1", "more")
            self.asks(desk, "run 65535", "more")
            self.asks(desk, "at 1000", "0 0 0 0 0 0 0 0 0 0 0 0")
            self.refuses(desk, "at 1001", error=NoStep)
            desk = self.desk("cells tell 1 0 0;jump 0 0 30", policy)
            self.asks(desk, "run 65535", "more", *["0"] * 500)
            self.asks(desk, "run 65535", "more")

    def test_what_has_ended_stays_ended(self):
        for row, how in (("halt 0 0 0", "halt"), ("bad 0 0 0", "bad"), ("div 1 2 3", "nought"),
                         ("jump 0 0 60", "closed"), ("back 0 0 0", "bad"), ("get 1 0 60", "closed")):
            for policy in ("policy", f"policy {MAKE}"):
                desk = self.desk(f"cells tell 1 0 0;{row}", policy)
                self.asks(desk, "run 9", how, "0")
                before = self.all_of(desk)
                for number in (0, 1, 1000):
                    self.asks(desk, f"run {number}", how)
                self.assertEqual(self.all_of(desk), before)

    def test_state(self):
        desk = self.desk("cells put 1 0 5;sub 2 1 3;sub 3 4 1;add 5 4 4;jump 0 0 40")
        for number, text in ((1, "1 0 5 0 0 0 0 0 0 0 0 0"), (2, "2 0 5 5 0 0 0 0 0 0 0 0"),
                             (3, "3 0 5 5 65531 0 0 0 0 0 1 1"), (4, "4 0 5 5 65531 0 0 0 0 1 0 0"),
                             (5, "13 0 5 5 65531 0 0 0 0 1 0 0")):
            self.asks(desk, "run 1", "more")
            self.asks(desk, "state", text)
            self.asks(desk, f"at {number}", text)
        self.asks(desk, "at 2", "2 0 5 5 0 0 0 0 0 0 0 0")
        self.asks(desk, "at 0", "0 0 0 0 0 0 0 0 0 0 0 0")

    def test_state_behind_a_bell_and_at_ahead_of_it(self):
        desk = self.desk("cells tell 1 0 0;jump 0 0 30", "bells 99 2")
        self.asks(desk, "run 9", "closed", "0")
        self.asks(desk, "state", "99 0 0 0 0 0 0 0 0 0 0 0")
        self.asks(desk, "at 2", "0 0 0 0 0 0 0 0 0 0 0 0")

    def test_kept_and_throw(self):
        desk = self.desk("cells " + ECHO, "given 1 2", f"policy {MAKE + 64}")
        self.asks(desk, "run 9", "more", "1", "2", "0")
        self.asks(desk, "kept", "0 3")
        self.asks(desk, "throw 1", "0")
        self.asks(desk, "throw 65535", "0")
        self.asks(desk, "throw 0", "1")
        self.asks(desk, "throw 0", "0")
        self.asks(desk, "kept")
        self.asks(desk, "run 3", "more", "0")
        self.asks(desk, "kept", "0 3")

    def test_kept_rising(self):
        desk = self.desk("cells jump 0 0 39;" + "halt 0 0 0;" * 7 + "tell 1 0 0;jump 0 0 24;halt 0 0 0",
                         f"policy {MAKE}")
        # Places 0, 8 and 2, in this order; 10 is not come to.
        self.asks(desk, "run 400", "halt", "0")
        self.asks(desk, "kept", "0 1", "2 1", "8 2")

    def test_counts(self):
        desk = self.desk("cells tell 1 0 0;jump 0 0 30", f"policy {BIND}")
        self.asks(desk, "run 10", "more", *["0"] * 5)
        runner = Runner(state_of("tell 1 0 0;jump 0 0 30"), [], [], 0, [BIND])
        runner.run(10)
        self.asks(desk, "counts", " ".join([str(count) for count in runner.counts()]))
        self.assertEqual(runner.counts()[1:], (0, 5, 4, 1))

    def test_at_beyond_what_was_done(self):
        desk = self.desk("cells " + LOOP)
        self.refuses(desk, "at 1", "at 2", "at 65535", error=NoStep)
        desk.ask("run 5")
        self.asks(desk, "at 5", *desk.ask("state"))
        self.refuses(desk, "at 6", "at 7", "at 1000", "at 65535", error=NoStep)
        self.refuses(desk, "at 65536", "at 99999", "at", "at ", "at -1", "at 05", "at 5 5", "at 5 ", "at  5", "at x",
                     "at 5\n")

    def test_asks_that_take_no_number(self):
        desk = self.desk("cells " + LOOP)
        desk.ask("run 5")
        for word in ("state", "kept", "counts"):
            self.refuses(desk, word + " ", word + " 0", " " + word, word + "\n", "\n" + word, word.upper(), word + ";",
                         word[:-1])

    def test_throw_that_is_none(self):
        desk = self.desk("cells " + LOOP, f"policy {MAKE}")
        desk.ask("run 5")
        self.refuses(desk, "throw", "throw ", "throw -1", "throw 00", "throw 0 0", "throw  0", "throw 0 ",
                     "throw 65536", "throw x", "throw 0\n")

    def test_others(self):
        desk = self.desk("cells " + LOOP)
        self.refuses(desk, "", " ", "\n", "help", "0", "run;run", "cells;", "bell 0 1", "right 0 7", "tell 1 0 0",
                     "offer 0", "window", "a" * 4000, " " * 4000, "give 5", "state state", "~")

    def test_the_refusals(self):
        self.assertEqual((NoAsk.__bases__, NoStep.__bases__), ((GuestError,), (GuestError,)))


class AheadOfTheFirstRun(Asking):
    """Point 28: what may be set only ahead of the first run."""

    LINES = ("rights 0 7", "given 5", "given", "bells 8 1", "bells 0", "policy 61", "policy")

    def test_behind_a_run(self):
        for run_line in ("run 0", "run 1", "run 1000"):
            desk = self.desk("cells " + ECHO, "given 1 2 3", f"policy {MAKE}")
            desk.ask(run_line)
            self.refuses(desk, *self.LINES)

    def test_behind_other_asks(self):
        desk = self.desk("cells " + ECHO)
        for line in ("state", "kept", "at 0", "counts", "throw 0"):
            desk.ask(line)
            for other in self.LINES:
                self.asks(desk, other)

    def test_behind_a_run_that_was_refused(self):
        desk = self.desk("cells " + ECHO)
        self.refuses(desk, "run", "run 65536", "run 01")
        for line in self.LINES:
            self.asks(desk, line)

    def test_one_setting_leaves_the_others(self):
        desk = self.desk("cells " + ECHO, "rights 1 4", "given 5 6", "bells 8 4", f"policy {MAKE}", "rights 0 5")
        state = state_of(ECHO, (5, 4))
        asked = run(state, [5, 6], [4], 8, 12)
        self.asks(desk, "run 12", "more", *[str(number) for number in asked[2]])
        runner = Runner(state, [5, 6], [4], 8, [MAKE])
        runner.run(12)
        self.asks(desk, "counts", " ".join([str(count) for count in runner.counts()]))

    def test_what_is_refused_changes_nothing_that_was_set(self):
        desk = self.desk("cells " + ECHO, "given 5 6", "bells 8 4", f"policy {MAKE}")
        self.refuses(desk, "given 7 65536", "bells 9 4 4", "policy 5 x", "rights 0 8", "rights 2 0", "cells tell 9 0 0")
        asked = run(state_of(ECHO), [5, 6], [4], 8, 12)
        self.asks(desk, "run 12", "more", *[str(number) for number in asked[2]])


class BesideTheRunner(Asking):
    """Points 1, 3 and 28: the desk tells what the plain run tells."""

    def test_many_programs(self):
        for seed in range(40):
            numbers = mixed(seed, 90)
            cells = [number if number % 3 else number % 4096 + 4096 * (1 + number // 7 % 4) for number in numbers[:24]]
            given, bells, policy = numbers[30:34], [2, 5, 11, 30], numbers[40:40 + seed % 4]
            desk = self.desk("cells " + ";".join([f"cell {cell}" for cell in cells]),
                             "given " + " ".join([str(number) for number in given]), "bells 9 2 5 11 30",
                             " ".join(["policy"] + [str(number) for number in policy]))
            state = begin(tuple(cells), (7, 7, 7))
            runner = Runner(state, given, bells, 9, policy)
            told = []
            done = 0
            asked = ("more",)
            with self.subTest(seed=seed):
                for step in (0, 1, 3, 10, 50, 0, 200):
                    # A plain run has not ended where it is told once more with the bound just reached.
                    if asked[0] == "more":
                        asked = run(state, given, bells, 9, done + step)
                    runner.run(done + step)
                    answer = desk.ask(f"run {step}")
                    self.assertEqual(answer[0], asked[0])
                    told += answer[1:]
                    done = asked[3]
                    self.assertEqual(told, [str(number) for number in asked[2]])
                    self.asks(desk, "state", shown(asked[1]))
                    self.asks(desk, "counts", " ".join([str(count) for count in runner.counts()]))
                    self.asks(desk, "kept", *[f"{place} {len(rows)}" for place, rows in runner.kept()])
                for number, state_then in enumerate(window(state, given, bells, 9, done)):
                    self.asks(desk, f"at {number}", shown(state_then))


class OwnAffairs(Asking):
    """Point 2."""

    def test_what_is_told_is_the_askers_own(self):
        desk = self.desk("cells " + LOOP, f"policy {MAKE}")
        for line in LINES[5:10]:
            first = desk.ask(line)
            before = list(first)
            desk.ask("run 2")
            self.assertEqual(first, before)
            first.append("more")
        self.assertEqual(len(desk.ask("state")), 1)

    def test_two_desks(self):
        first = self.desk("cells " + LOOP, f"policy {MAKE}")
        second = self.desk("cells " + ECHO, "given 9")
        self.asks(first, "run 400", "halt", "1", "2", "3", "4", "5")
        self.asks(second, "kept")
        self.asks(second, "policy")
        self.asks(second, "run 3", "more", "9")
        self.asks(first, "run 400", "halt")
        self.asks(Desk(), "run 1", "halt")

    def test_every_word_is_answered(self):
        desk = Desk()
        for line in LINES:
            self.assertIsInstance(desk.ask(line), list)


if __name__ == "__main__":
    unittest.main()
