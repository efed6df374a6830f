"""How many host rows a host block does until it is left."""

from asitruns.host.forms import parts_of


def rows_to(host, number):
    """The host rows done when the block is left at the exit of this number, for each row that names it, rising."""
    return tuple([count for count, row in enumerate(host[2], start=1) if number in parts_of(row, "e")])
