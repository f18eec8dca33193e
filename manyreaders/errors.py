"""The refusals: each one stands straight under GuestError."""


class GuestError(ValueError):
    """What every refusal of the program is."""


class NoDeed(GuestError):
    """A deed that is none, or that can't be done; place is its number in its row."""

    def __init__(self, place):
        self.place = place


class NoText(GuestError):
    """A text that writes nothing; row is the number of the line at fault, or None."""

    def __init__(self, row):
        self.row = row


class TooMany(GuestError):
    """More is come to than the program goes on with."""


class NoLine(GuestError):
    """A line that the desk doesn't know."""
