"""The errors that the package raises; each keeps what its brackets tell."""


class NoDot(LookupError):
    """There is no such dot here."""

    def __init__(self, dot):
        self.dot = dot


class NoEdge(LookupError):
    """There is no such edge here."""

    def __init__(self, edge):
        self.edge = edge


class NoMiddle(LookupError):
    """This is no middle of the field."""

    def __init__(self, middle):
        self.middle = middle


class NothingDone(LookupError):
    """There is nothing to take back, or to do once more."""


class BadText(ValueError):
    """This line of a text is not as it must be."""

    def __init__(self, line):
        self.line = line


class Broken(ValueError):
    """At this place a plan can not go on."""

    def __init__(self, place):
        self.place = place


class CanNot(ValueError):
    """There is nothing that is as asked for."""


class Crossing(ValueError):
    """These two edges cross."""

    def __init__(self, edge, other):
        self.edge = edge
        self.other = other


class TooMany(ValueError):
    """What is asked for is more than is told."""


class Unfit(ValueError):
    """An argument is not as described."""
