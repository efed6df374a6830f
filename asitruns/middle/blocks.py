"""Blocks: the guest rows from a place on that are done one behind the other."""

from asitruns.guest.rows import set_out
from asitruns.guest.steps import CELLS, RUN, may_be

# The words that end a block: behind them another place may come, or other pages may be run.
ENDS = ("halt", "bad", "jump", "when", "go", "right", "back")


def block_at(state, place, most=60):
    """The rows of the block that begins at the place, at most so many; none where it is closed."""
    rows = []
    for address in range(place, place + most):
        if not may_be(RUN, state, address):
            break
        row = state[CELLS][address]
        rows.append(row)
        if set_out(row)[0] in ENDS:
            break
    return tuple(rows)
