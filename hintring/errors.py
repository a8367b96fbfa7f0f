"""The errors of the package, one class for each kind of refusal."""


class NoPlace(LookupError):
    """A number that ought to be that of a PLACE or of a NODE, and is none."""

    def __init__(self, number):
        LookupError.__init__(self, f"no place {number}")
        self.number = number


class NoMoment(LookupError):
    """A number that ought to be a MOMENT, and is none."""

    def __init__(self, number):
        LookupError.__init__(self, f"no moment {number}")
        self.number = number


class NoDeed(LookupError):
    """A number that ought to be that of a DEED, and is none."""

    def __init__(self, number):
        LookupError.__init__(self, f"no deed {number}")
        self.number = number


class NoVersion(LookupError):
    """A number that ought to be a VERSION, and is none."""

    def __init__(self, number):
        LookupError.__init__(self, f"no version {number}")
        self.number = number


class NoPoint(LookupError):
    """A number that ought to be a point of a RING, and is none."""

    def __init__(self, number):
        LookupError.__init__(self, f"no point {number}")
        self.number = number


class NoEpoch(LookupError):
    """A number that ought to be that of an EPOCH, and is none."""

    def __init__(self, number):
        LookupError.__init__(self, f"no epoch {number}")
        self.number = number


class NothingDone(LookupError):
    """There is no step that could be taken back or made again."""


class BadLine(ValueError):
    """A line of a text that can not stand where it stands."""

    def __init__(self, number):
        ValueError.__init__(self, f"bad line {number}")
        self.number = number


class CanNot(ValueError):
    """What was asked for can not be done here."""


class TooMany(ValueError):
    """There are more cases than the document lets a function go through."""


class Unfit(ValueError):
    """Arguments that do not fit one another."""
