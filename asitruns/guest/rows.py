"""Rows of the guest: numbers, set out as tuples, read and shown as texts."""

from asitruns.errors import BadRow

WORDS = (
    "halt", "put", "add", "sub", "mul", "bad", "div", "get",
    "set", "jump", "when", "go", "tell", "hear", "right", "back",
)


def set_out(number):
    """The tuple (word, a, b, c) of a row's number."""
    return (WORDS[number // 4096 % 16], number // 512 % 8, number // 64 % 8, number % 64)


def number_of(row):
    """The number of a row that is set out as a tuple (word, a, b, c)."""
    return WORDS.index(row[0]) * 4096 + row[1] * 512 + row[2] * 64 + row[3]


def number_in(figures, greatest):
    """The number that is written in figures, or None where they tell none from 0 to greatest."""
    # The length is looked at first: Python refuses to turn very many figures into a number.
    if figures == "" or len(figures) > len(str(greatest)):
        return None
    if any([sign not in "0123456789" for sign in figures]):
        return None
    if figures[0] == "0" and figures != "0":
        return None
    number = int(figures)
    return number if number <= greatest else None


def number_of_line(line):
    """The number of the row that a line of a program tells, or None where it is no row."""
    parts = line.split(" ")
    if len(parts) == 2 and parts[0] == "cell":
        return number_in(parts[1], 65535)
    if len(parts) != 4 or parts[0] not in WORDS:
        return None
    a = number_in(parts[1], 7)
    b = number_in(parts[2], 7)
    c = number_in(parts[3], 63)
    if a is None or b is None or c is None:
        return None
    return number_of((parts[0], a, b, c))


def read(text):
    """The cells that a program's text tells, or BadRow with the first row that is none."""
    cells = []
    for row, line in enumerate(text.split("\n"), start=1):
        number = number_of_line(line)
        if number is None:
            raise BadRow(row)
        cells.append(number)
    return tuple(cells)


def line_of(number):
    """The line of a program that tells the row of this number, by its word."""
    return " ".join([str(part) for part in set_out(number)])


def shown(cells):
    """The text of a program that has these cells."""
    return "\n".join([line_of(number) for number in cells])
