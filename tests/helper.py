"""What the tests of several modules need."""

import unittest

from asitruns.guest.rows import read
from asitruns.guest.steps import begin

# Written out here once more, so that a change of the program's own order is seen.
WORDS = ("halt", "put", "add", "sub", "mul", "bad", "div", "get",
         "set", "jump", "when", "go", "tell", "hear", "right", "back")


def kinds_of(value):
    """The kinds of a value and of all that is in it."""
    if isinstance(value, (tuple, list)):
        return (type(value), [kinds_of(part) for part in value])
    return type(value)


def altered(state, **parts):
    """The state with some of its parts, told by their names, exchanged."""
    names = ("place", "boxes", "marks", "saved", "rights", "cells")
    return tuple([parts.get(name, part) for name, part in zip(names, state)])


def state_of(*rows, **parts):
    """A state with these rows from cell 0 on, filled up by 0 to a multiple of 8, all rights 7; parts as altered."""
    cells = read("\n".join(rows)) if rows else ()
    cells += (0,) * (-len(cells) % 8)
    return altered(begin(cells, (7,) * (len(cells) // 8)), **parts)


def mixed(seed, many):
    """Many numbers from 0 to 65535, the same ones for the same seed, in no order that a program has."""
    found = []
    for step in range(many):
        seed = (seed * 1103515245 + 12345 + step) % 2 ** 31
        found.append(seed // 2 ** 12 % 65536)
    return found


def program(numbers):
    """Cells of these numbers, but that of five rows that would end a block four become rows that count or tell."""
    calm = ("put", "add", "sub", "mul", "tell")
    found = []
    for number in numbers:
        if WORDS[number // 4096] in ("halt", "bad", "jump", "when", "go", "right", "back") and number % 5:
            number = WORDS.index(calm[number // 64 % 5]) * 4096 + number % 4096
        found.append(number)
    return tuple(found)


class Same(unittest.TestCase):
    """Tests that ask for values and for their kinds."""

    def same(self, told, asked):
        self.assertEqual(told, asked)
        self.assertEqual(kinds_of(told), kinds_of(asked))
