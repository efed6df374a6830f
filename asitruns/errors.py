"""The refusals of the program."""


class GuestError(ValueError):
    """Any refusal."""


class BadRow(GuestError):
    """A program's text has a row that is none."""

    def __init__(self, row):
        GuestError.__init__(self, f"row {row} is no row of a program")
        self.row = row


class NoTurning(GuestError):
    """A step does not turn the node seen."""


class NoPaper(GuestError):
    """An offer is not taken."""


class NoAsk(GuestError):
    """A line is nothing that a desk is asked."""


class NoStep(GuestError):
    """The run did not come to so many rows."""
