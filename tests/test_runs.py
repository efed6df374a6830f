"""Points 2, 8 and 9: asitruns.guest.runs."""

import copy
import unittest

from asitruns.guest.runs import run, window
from asitruns.guest.steps import do_row
from helper import Same, altered, mixed, program, state_of

NO_MARKS = (False, False, False)

# Counts box 1 up for ever; from 8 on a handler counts box 2 up.
LOOP = ("put 0 0 1", "add 1 1 0", "jump 0 0 30", "halt 0 0 0", "halt 0 0 0", "halt 0 0 0", "halt 0 0 0", "halt 0 0 0",
        "put 3 0 1", "add 2 2 3", "back 0 0 0")


def boxes_of(**boxes):
    """Boxes at 0 but for some, called b0 to b7."""
    return tuple([boxes.get(f"b{k}", 0) for k in range(8)])


def slow_run(state, given, bells, ring, most):
    """Point 8 once more, written the long way: what run tells, and what window tells."""
    given = list(given)
    bells = list(bells)
    told = ()
    done = heard = rung = 0
    states = []
    while True:
        states.append(state)
        if done == most:
            return ("more", state, told, done, heard, rung), states
        place, boxes, marks, saved, rights, cells = state
        if saved is None and bells and bells[0] <= done:
            bells.pop(0)
            rung += 1
            state = (ring, boxes, marks, (place, marks), rights, cells)
        how, behind, new = do_row(state, given[0] if given else 0)
        if how != "on":
            return (how, state, told, done, heard, rung), states
        if given and cells[state[0]] // 4096 == 13:
            given.pop(0)
            heard += 1
        state = behind
        told += new
        done += 1


class Ends(Same):
    """Point 8: how a run ends."""

    def test_halt(self):
        state = state_of("put 1 0 5", "tell 1 0 0", "halt 0 0 0")
        behind = altered(state, place=2, boxes=boxes_of(b1=5))
        self.same(run(state, [], [], 0), ("halt", behind, (5,), 2, 0, 0))

    def test_halt_at_once(self):
        state = state_of("halt 0 0 0")
        self.same(run(state, [], [], 0), ("halt", state, (), 0, 0, 0))

    def test_each_fault(self):
        faults = {
            "bad 0 0 0": "bad", "back 0 0 0": "bad", "div 0 1 2": "nought", "get 0 1 63": "closed",
            "set 0 1 63": "closed", "right 3 0 7": "closed",
        }
        for row, how in faults.items():
            state = state_of("put 3 0 9", "tell 3 0 0", row)
            behind = altered(state, place=2, boxes=boxes_of(b3=9))
            with self.subTest(row=row):
                self.same(run(state, [4], [], 0), (how, behind, (9,), 2, 0, 0))

    def test_a_place_that_may_not_be_run(self):
        state = state_of("jump 0 0 39", "halt 0 0 0")
        for other in (state, altered(state, rights=(7, 3), cells=state[5] * 2)):
            self.same(run(other, [], [], 0), ("closed", altered(other, place=8), (), 1, 0, 0))

    def test_off_the_last_cell(self):
        state = altered(state_of(), cells=(4096,) * 8, rights=(7,))
        self.same(run(state, [], [], 0), ("closed", altered(state, place=8), (), 8, 0, 0))

    def test_a_state_without_cells(self):
        state = state_of()
        self.same(run(state, [1], [], 0), ("closed", state, (), 0, 0, 0))
        self.same(run(state, [1], [1], 5), ("closed", state, (), 0, 0, 0))
        self.same(run(state, [], [], 0, 0), ("more", state, (), 0, 0, 0))
        rung = altered(state, place=5, saved=(0, NO_MARKS))
        self.same(run(state, [1], [0], 5), ("closed", rung, (), 0, 0, 1))

    def test_more(self):
        state = state_of(*LOOP)
        self.same(run(state, [], [], 8, 0), ("more", state, (), 0, 0, 0))
        one = altered(state, place=1, boxes=boxes_of(b0=1))
        self.same(run(state, [], [], 8, 1), ("more", one, (), 1, 0, 0))
        four = altered(state, place=2, boxes=boxes_of(b0=1, b1=2))
        self.same(run(state, [], [], 8, 4), ("more", four, (), 4, 0, 0))

    def test_the_bound_goes_ahead_of_a_halt_and_a_fault(self):
        for last in ("halt 0 0 0", "bad 0 0 0", "div 0 1 2"):
            state = state_of("put 1 0 5", last)
            behind = altered(state, place=1, boxes=boxes_of(b1=5))
            with self.subTest(last=last):
                self.same(run(state, [], [], 0, 1), ("more", behind, (), 1, 0, 0))
                self.assertNotEqual(run(state, [], [], 0, 2)[0], "more")

    def test_four_hundred_rows_where_no_bound_is_told(self):
        state = state_of(*LOOP)
        self.assertEqual(run(state, [], [], 8), run(state, [], [], 8, 400))
        self.assertEqual(run(state, [], [], 8)[0], "more")
        self.assertEqual(run(state, [], [], 8)[3], 400)

    def test_a_thousand_rows(self):
        outcome = run(state_of(*LOOP), [], [], 8, 1000)
        self.assertEqual(outcome[0], "more")
        self.assertEqual(outcome[3], 1000)
        self.assertEqual(outcome[1][1], boxes_of(b0=1, b1=500))

    def test_a_bound_below_nought_is_reached(self):
        state = state_of(*LOOP)
        self.same(run(state, [], [0], 8, -1), ("more", state, (), 0, 0, 0))

    def test_told_numbers_come_in_their_order(self):
        state = state_of("put 1 0 7", "tell 1 0 0", "tell 0 0 0", "tell 1 0 0")
        self.assertEqual(run(state, [], [], 0)[2], (7, 0, 7))

    def test_a_program_that_writes_over_itself(self):
        # The row at 2 becomes that at 4.
        state = state_of("get 1 0 4", "set 1 0 2", "halt 0 0 0", "halt 0 0 0", "put 2 0 9")
        outcome = run(state, [], [], 0)
        self.assertEqual(outcome[3], 3)
        self.assertEqual(outcome[1][1][2], 9)


class Givens(Same):
    """Point 8: what is heard."""

    def test_one_behind_the_other(self):
        state = state_of("hear 1 0 0", "hear 2 0 0", "halt 0 0 0")
        behind = altered(state, place=2, boxes=boxes_of(b1=65535, b2=7))
        self.same(run(state, [65535, 7, 8], [], 0), ("halt", behind, (), 2, 2, 0))

    def test_nought_behind_the_last_one(self):
        state = state_of("put 2 0 5", "hear 1 0 0", "hear 2 0 0", "halt 0 0 0")
        behind = altered(state, place=3, boxes=boxes_of(b1=9))
        self.same(run(state, [9], [], 0), ("halt", behind, (), 3, 1, 0))

    def test_none_at_all(self):
        state = state_of("put 1 0 5", "hear 1 0 0", "halt 0 0 0")
        self.same(run(state, [], [], 0), ("halt", altered(state, place=2), (), 2, 0, 0))

    def test_a_given_of_nought_is_heard(self):
        state = state_of("hear 1 0 0", "hear 2 0 0", "halt 0 0 0")
        self.same(run(state, [0, 3], [], 0), ("halt", altered(state, place=2, boxes=boxes_of(b2=3)), (), 2, 2, 0))

    def test_other_rows_hear_none(self):
        state = state_of("put 1 0 5", "tell 1 0 0", "add 2 1 1", "hear 3 0 0", "halt 0 0 0")
        outcome = run(state, [40, 41], [], 0)
        self.assertEqual(outcome[1][1], boxes_of(b1=5, b2=10, b3=40))
        self.assertEqual(outcome[4], 1)

    def test_a_hear_that_is_not_done(self):
        state = state_of("hear 1 0 0", "hear 2 0 0")
        self.assertEqual(run(state, [8, 9], [], 0, 0)[4], 0)
        self.assertEqual(run(state, [8, 9], [], 0, 1)[4], 1)
        shut = altered(state, rights=(3,))
        self.same(run(shut, [8, 9], [], 0), ("closed", shut, (), 0, 0, 0))

    def test_sixty(self):
        state = state_of("hear 1 0 0", "tell 1 0 0", "jump 0 0 29")
        given = list(range(100, 160))
        outcome = run(state, given, [], 0, 3 * 61)
        self.assertEqual(outcome[2], tuple(given) + (0,))
        self.assertEqual(outcome[4], 60)


class Bells(Same):
    """Point 8: bells."""

    def test_at_nought(self):
        state = state_of(*LOOP)
        behind = altered(state, place=9, boxes=boxes_of(b3=1), saved=(0, NO_MARKS))
        self.same(run(state, [], [0], 8, 1), ("more", behind, (), 1, 0, 1))

    def test_at_a_number_of_rows_done(self):
        state = state_of(*LOOP)
        ahead = altered(state, place=2, boxes=boxes_of(b0=1, b1=1))
        self.same(run(state, [], [2], 8, 2), ("more", ahead, (), 2, 0, 0))
        behind = altered(state, place=9, boxes=boxes_of(b0=1, b1=1, b3=1), saved=(2, NO_MARKS))
        self.same(run(state, [], [2], 8, 3), ("more", behind, (), 3, 0, 1))
        # Behind the handler the run is where it was.
        back = altered(state, place=2, boxes=boxes_of(b0=1, b1=1, b2=1, b3=1))
        self.same(run(state, [], [2], 8, 5), ("more", back, (), 5, 0, 1))

    def test_marks_are_saved_and_come_back(self):
        state = state_of("put 0 0 0", "sub 1 0 0", "halt 0 0 0", "put 2 0 1", "sub 3 0 2", "back 0 0 0")
        outcome = run(state, [], [2], 3)
        self.assertEqual(outcome[0], "halt")
        self.assertEqual(outcome[1][0], 2)
        self.assertEqual(outcome[1][1], boxes_of(b2=1, b3=65535))
        self.assertEqual(outcome[1][2], (True, False, False))
        self.assertIs(outcome[1][3], None)
        self.assertEqual(outcome[3:], (5, 0, 1))
        self.assertEqual(run(state, [], [2], 3, 4)[1][2:4], ((False, True, True), (2, (True, False, False))))

    def test_while_the_handler_of_another_one_runs(self):
        state = state_of(*LOOP)
        # The handler's three rows are those done at 1, 2 and 3; the second bell rings at 4, ahead of the row at 1.
        for second in (2, 3, 4):
            with self.subTest(second=second):
                self.assertEqual(run(state, [], [1, second], 8, 4)[5], 1)
                outcome = run(state, [], [1, second], 8, 5)
                self.assertEqual(outcome[5], 2)
                self.assertEqual(outcome[1][3], (1, NO_MARKS))
                self.assertEqual(outcome[1][0], 9)

    def test_several_due_at_once(self):
        state = state_of(*LOOP)
        bells = [0, 1, 2]
        self.assertEqual([run(state, [], bells, 8, most)[5] for most in range(12)],
                         [0, 1, 1, 1, 2, 2, 2, 3, 3, 3, 3, 3])
        behind = altered(state, boxes=boxes_of(b2=3, b3=1))
        self.same(run(state, [], bells, 8, 9), ("more", behind, (), 9, 0, 3))

    def test_due_long_ago(self):
        # Saved at the begin, the bells wait for the first back.
        state = state_of("put 1 0 1", "put 1 0 2", "back 0 0 0", "halt 0 0 0", "tell 1 0 0", "back 0 0 0",
                         saved=(3, (True, True, True)))
        outcome = run(state, [], [0, 1], 4)
        self.assertEqual(outcome[0], "halt")
        self.assertEqual(outcome[2], (2, 2))
        self.assertEqual(outcome[3:], (7, 0, 2))
        self.assertEqual(outcome[1][2], (True, True, True))
        self.assertEqual([run(state, [], [0, 1], 4, most)[5] for most in range(8)], [0, 0, 0, 0, 1, 1, 2, 2])

    def test_at_the_bound(self):
        state = state_of(*LOOP)
        for most in (0, 1, 5):
            with self.subTest(most=most):
                self.assertEqual(run(state, [], [most], 8, most), run(state, [], [], 8, most))
                self.assertEqual(run(state, [], [most], 8, most)[5], 0)
                self.assertEqual(run(state, [], [most], 8, most + 1)[5], 1)

    def test_ahead_of_a_row_that_faults(self):
        for place, row, how in ((3, "bad 0 0 0", "bad"), (3, "div 0 1 2", "nought"), (3, "halt 0 0 0", "halt"),
                                (3, "get 0 1 63", "closed"), (200, "bad 0 0 0", "closed")):
            state = state_of("put 4 0 1", "put 5 0 1", "put 6 0 1", row)
            behind = altered(state, place=place, boxes=boxes_of(b4=1, b5=1), saved=(2, NO_MARKS))
            with self.subTest(row=row, place=place):
                self.same(run(state, [], [2, 3], place), (how, behind, (), 2, 0, 1))

    def test_back_at_the_bell_faults_no_more(self):
        state = state_of("back 0 0 0", "back 0 0 0")
        self.same(run(state, [], [], 1), ("bad", state, (), 0, 0, 0))
        self.same(run(state, [], [0], 1), ("bad", state, (), 1, 0, 1))

    def test_behind_the_end_none_rings(self):
        state = state_of("put 1 0 5", "halt 0 0 0")
        self.same(run(state, [], [2, 3], 0), ("halt", altered(state, place=1, boxes=boxes_of(b1=5)), (), 1, 0, 0))

    def test_a_handler_hears_and_tells(self):
        state = state_of("hear 1 0 0", "hear 2 0 0", "halt 0 0 0", "hear 3 0 0", "tell 3 0 0", "back 0 0 0")
        outcome = run(state, [10, 11, 12], [1], 3)
        self.assertEqual(outcome[1][1], boxes_of(b1=10, b2=12, b3=11))
        self.assertEqual(outcome[2:], ((11,), 5, 3, 1))

    def test_sixty(self):
        state = state_of("jump 0 0 31", "back 0 0 0")
        # Each bell's handler is its back alone; no row stands between two bells.
        self.same(run(state, [], list(range(60)), 1, 60), ("more", state, (), 60, 0, 60))
        self.same(run(state, [], list(range(0, 180, 3)), 1, 400), ("more", state, (), 400, 0, 60))


class Kept(Same):
    """Point 2: what is handed in stays, and the same is told again."""

    def test_lists_handed_in_stay(self):
        state = state_of("hear 1 0 0", "jump 0 0 30", "back 0 0 0")
        given = [1, 2, 3]
        bells = [0, 2, 9]
        before = copy.deepcopy((state, given, bells))
        first = run(state, given, bells, 2, 20)
        states = window(state, given, bells, 2, 20)
        self.assertEqual((state, given, bells), before)
        self.same(run(state, given, bells, 2, 20), first)
        self.same(window(state, given, bells, 2, 20), states)

    def test_what_becomes_of_the_lists_behind_the_call(self):
        state = state_of("hear 1 0 0", "jump 0 0 30", "back 0 0 0")
        given = [1, 2, 3]
        bells = [0, 2, 9]
        told = run(state, given, bells, 2, 20)
        states = window(state, given, bells, 2, 20)
        before = copy.deepcopy((told, states))
        given.clear()
        bells[:] = [7]
        self.assertEqual((told, states), before)

    def test_a_told_window_that_the_asker_changes(self):
        state = state_of(*LOOP)
        states = window(state, [], [3], 8, 10)
        before = list(states)
        states.pop()
        states[0] = None
        self.same(window(state, [], [3], 8, 10), before)


class Window(Same):
    """Point 9."""

    def test_one_state_more_than_rows_done(self):
        state = state_of(*LOOP)
        for most in (0, 1, 2, 7, 400):
            for bells in ([], [0], [0, 1, 5], [most]):
                states = window(state, [], bells, 8, most)
                with self.subTest(most=most, bells=bells):
                    self.assertIs(type(states), list)
                    self.assertEqual(len(states), most + 1)
                    self.assertEqual(states[0], state)

    def test_each_state(self):
        state = state_of("put 1 0 5", "add 2 1 1", "halt 0 0 0")
        one = altered(state, place=1, boxes=boxes_of(b1=5))
        two = altered(state, place=2, boxes=boxes_of(b1=5, b2=10))
        self.same(window(state, [], [], 0), [state, one, two])
        self.same(window(state, [], [], 0, 1), [state, one])

    def test_ahead_of_a_bell_that_rings_then(self):
        state = state_of(*LOOP)
        states = window(state, [], [0, 5], 8, 7)
        self.assertEqual(states[0], state)
        self.assertEqual([one[0] for one in states], [0, 9, 10, 0, 1, 2, 9, 10])
        self.assertEqual([one[3] for one in states],
                         [None, (0, NO_MARKS), (0, NO_MARKS), None, None, None, (2, NO_MARKS), (2, NO_MARKS)])

    def test_its_last_one_is_another_than_the_run_s_where_a_bell_rang_behind_it(self):
        state = state_of("put 1 0 5", "put 2 0 6", "bad 0 0 0")
        states = window(state, [], [1], 2)
        ahead = altered(state, place=1, boxes=boxes_of(b1=5))
        self.same(states, [state, ahead])
        self.same(run(state, [], [1], 2)[1], altered(ahead, place=2, saved=(1, NO_MARKS)))

    def test_its_last_one_is_the_run_s_where_none_rang_behind_it(self):
        state = state_of(*LOOP)
        for most in range(12):
            self.assertEqual(window(state, [], [2, most], 8, most)[-1], run(state, [], [2, most], 8, most)[1])

    def test_a_state_without_cells(self):
        state = state_of()
        self.same(window(state, [], [0], 5), [state])
        self.same(window(state, [], [], 5, 0), [state])

    def test_four_hundred_rows_where_no_bound_is_told(self):
        self.assertEqual(len(window(state_of(*LOOP), [], [], 8)), 401)


class LongWay(Same):
    """Points 8 and 9: programs in no order, against the long way."""

    def test_programs(self):
        # Rows that leap about, write and set rights, so that all ways to end come up.
        hows = {}
        for seed in range(300):
            numbers = mixed(seed, 40)
            state = altered(state_of(), cells=program(numbers[:32]), rights=(7, 7, 7, numbers[32] % 8),
                            boxes=tuple([number % 40 for number in numbers[32:]]))
            given = numbers[:seed % 5]
            bells = sorted({number % 30 for number in numbers[:seed % 7]})
            ring = numbers[39] % 34
            most = seed % 50
            asked = slow_run(state, given, bells, ring, most)
            with self.subTest(seed=seed):
                self.same(run(state, given, bells, ring, most), asked[0])
                self.same(window(state, given, bells, ring, most), asked[1])
            hows[asked[0][0]] = True
        self.assertEqual(sorted(hows), ["bad", "closed", "halt", "more", "nought"])


if __name__ == "__main__":
    unittest.main()
