"""Plain runs of the guest: row by row, with givens and bells."""

from asitruns.guest.rows import set_out
from asitruns.guest.steps import CELLS, MARKS, PLACE, SAVED, do_row, replaced


def is_due(state, bells, rung, done):
    """Whether the first bell not yet rung rings, with so many rows done."""
    return state[SAVED] is None and rung < len(bells) and bells[rung] <= done


def with_bell(state, ring):
    """The state behind a bell whose place is ring."""
    saved = (state[PLACE], state[MARKS])
    return replaced(replaced(state, SAVED, saved), PLACE, ring)


def is_hear(state):
    """Whether the row at the state's place, which is a cell, is a hear."""
    return set_out(state[CELLS][state[PLACE]])[0] == "hear"


def run_and_window(state, given, bells, ring, most):
    """A tuple of what run tells and what window tells."""
    told = []
    heard = 0
    rung = 0
    states = [state]
    for done in range(most):
        if is_due(state, bells, rung, done):
            state = with_bell(state, ring)
            rung += 1
        row = do_row(state, given[heard] if heard < len(given) else 0)
        if row[0] != "on":
            return ((row[0], state, tuple(told), done, heard, rung), states)
        if heard < len(given) and is_hear(state):
            heard += 1
        state = row[1]
        told.extend(row[2])
        states.append(state)
    return (("more", state, tuple(told), len(states) - 1, heard, rung), states)


def run(state, given, bells, ring, most=400):
    """A run of at most so many rows: (how, state, told numbers, rows done, givens heard, bells rung)."""
    return run_and_window(state, given, bells, ring, most)[0]


def window(state, given, bells, ring, most=400):
    """The states at each number of rows done, each ahead of a bell that rings then."""
    return run_and_window(state, given, bells, ring, most)[1]
