"""The refusals of the program, each of a class of its own under HourError."""


class HourError(ValueError):
    """Any refusal."""


class NoText(HourError):
    """What is read isn't written as it must be; made with a text."""


class NoWay(HourError):
    """Something is no way of a net, or none that can be summed; made with a text."""


class TooWide(HourError):
    """A way's sum leaves a beat or more open; made with a text."""


class OtherBeats(HourError):
    """Two nets have unlike beats; made with a text."""


class NoOrder(HourError):
    """A tuple isn't an order of a net's happenings; made with a text."""


class TooGreat(HourError):
    """There are more than may be: how many there are, and how many there may be at most."""

    def __init__(self, many, most):
        # The base gets just what this is made with: so a copy of the error can be made from it.
        HourError.__init__(self, many, most)
        self.many = many
        self.most = most


class NoPlan(HourError):
    """A plan's row, told by its number from 0, can't stand in a plan."""

    def __init__(self, row):
        HourError.__init__(self, row)
        self.row = row
