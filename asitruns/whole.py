"""The desk: a runner asked by lines of text."""

from asitruns.errors import BadRow, NoAsk
from asitruns.guest.rows import number_in, read
from asitruns.guest.steps import BOXES, MARKS, PLACE, RIGHTS, begin, replaced
from asitruns.keeper.runner import Runner

# How many numbers stand behind the word of an ask, at least and at most; cells has rows in their place.
NUMBERS = {
    "rights": (2, 2), "given": (0, 60), "bells": (1, 61), "policy": (0, 60), "run": (1, 1), "state": (0, 0),
    "kept": (0, 0), "at": (1, 1), "counts": (0, 0), "throw": (1, 1),
}

# What may be set only ahead of the first run.
SETTINGS = ("rights", "given", "bells", "policy")

MOST_CELLS = 128
MOST_ROWS = 1000


def texts_of(numbers):
    """One text of numbers, with blanks between."""
    return " ".join([str(number) for number in numbers])


def shown_state(state):
    """A state's place, boxes and marks as one text."""
    marks = [1 if mark else 0 for mark in state[MARKS]]
    return texts_of((state[PLACE],) + state[BOXES] + tuple(marks))


def cells_in(text):
    """The cells that rows with ; between tell, filled up to whole pages, or NoAsk."""
    try:
        cells = read(text.replace(";", "\n"))
    except BadRow:
        raise NoAsk("a row is none") from None
    if len(cells) > MOST_CELLS:
        raise NoAsk("too many rows")
    return cells + (0,) * (-len(cells) % 8)


def numbers_in(word, figures):
    """The numbers behind the word of an ask, or NoAsk."""
    if word not in NUMBERS or not NUMBERS[word][0] <= len(figures) <= NUMBERS[word][1]:
        raise NoAsk("no ask of this word with so many numbers")
    numbers = [number_in(part, 65535) for part in figures]
    if None in numbers:
        raise NoAsk("a number is none")
    return numbers


class Desk:
    """Answers asks about one runner, which each setting makes anew."""

    def __init__(self):
        self.lay(cells_in("cell 0"))

    def lay(self, cells):
        """New cells, and nothing else set."""
        self.start = begin(cells, (7,) * (len(cells) // 8))
        self.given = []
        self.bells = []
        self.ring = 0
        self.policy = []
        self.renew()

    def renew(self):
        """A runner of what is set, ahead of its first run."""
        self.runner = Runner(self.start, self.given, self.bells, self.ring, self.policy)
        self.is_begun = False
        self.done = 0
        self.told = 0

    def ask(self, line):
        """The answer to a line, a list of texts, or NoAsk."""
        if "\n" in line:
            raise NoAsk("a line end within a line")
        parts = line.partition(" ")
        if parts[0] == "cells":
            self.lay(cells_in(parts[2]))
            return []
        words = line.split(" ")
        numbers = numbers_in(words[0], words[1:])
        if words[0] in SETTINGS:
            self.change(words[0], numbers)
            return []
        return self.answer(words[0], numbers)

    def change(self, word, numbers):
        """Sets what the word tells, or NoAsk with nothing changed."""
        if self.is_begun:
            raise NoAsk("this may be set only ahead of the first run")
        if word == "rights":
            self.change_rights(numbers[0], numbers[1])
        elif word == "given":
            self.given = numbers
        elif word == "policy":
            self.policy = numbers
        else:
            self.change_bells(numbers[0], numbers[1:])
        self.renew()

    def change_rights(self, page, right):
        """Sets the right of a page."""
        rights = self.start[RIGHTS]
        if page >= len(rights) or right > 7:
            raise NoAsk("no such page or right")
        self.start = replaced(self.start, RIGHTS, replaced(rights, page, right))

    def change_bells(self, ring, bells):
        """Sets the place of bells, and the bells."""
        if any([bell >= later for bell, later in zip(bells, bells[1:])]):
            raise NoAsk("bells that do not rise")
        self.ring = ring
        self.bells = bells

    def answer(self, word, numbers):
        """The answer to an ask that sets nothing."""
        if word == "run":
            return self.run_on(numbers[0])
        if word == "state":
            return [shown_state(self.runner.state())]
        if word == "kept":
            return [texts_of((place, len(rows))) for place, rows in self.runner.kept()]
        if word == "at":
            return [shown_state(self.runner.at(numbers[0]))]
        if word == "counts":
            return [texts_of(self.runner.counts())]
        return [str(self.runner.throw(numbers[0]))]

    def run_on(self, rows):
        """How a run of at most so many rows more ends, and what it told."""
        outcome = self.runner.run(min(self.done + rows, MOST_ROWS))
        new = outcome[2][self.told:]
        self.is_begun = True
        self.done = outcome[3]
        self.told = len(outcome[2])
        return [outcome[0]] + [str(number) for number in new]
