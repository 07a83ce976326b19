"""The refusals. Their fields are copies: who makes one may go on changing what was handed in."""

from askedways.shapes import copied


class WayError(ValueError):
    """What a refusal of something handed in is under."""


class NoRun(WayError):
    """Things are no deeds of a run: at is the number of the first that can't be done, why its why."""

    def __init__(self, at, why):
        super().__init__(f"no deed of a run at {at!r}: {why!r}")
        self.at = copied(at)
        self.why = copied(why)


class NoDeed(WayError):
    """A deed can't be done: why, and at its number where several were to be done."""

    def __init__(self, why, at=None):
        super().__init__(f"no deed to be done at {at!r}: {why!r}")
        self.why = copied(why)
        self.at = copied(at)


class NoWorld(WayError):
    """A world is none in which this can be asked."""


class NoWay(WayError):
    """There is no way to be told."""


class NoText(WayError):
    """A text can't be read: line is the number of the line that can't stand there."""

    def __init__(self, line):
        super().__init__(f"no such text: line {line!r}")
        self.line = copied(line)


class NoRow(WayError):
    """A row can't be said at a desk."""


class Unknown(KeyError):
    """There is nothing of this name."""

    def __init__(self, name):
        super().__init__(f"nothing of this name: {name!r}")
        self.name = copied(name)


class NoBack(IndexError):
    """There is nothing to be taken back."""


class TooMany(OverflowError):
    """There are more than most of them."""

    def __init__(self, most):
        super().__init__(f"more than {most!r}")
        self.most = copied(most)


class Full(OverflowError):
    """No more can be sent."""
