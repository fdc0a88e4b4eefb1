"""All errors of the program. The attributes of an error tell what was wrong."""


class WatchError(ValueError):
    """The base class of all errors of the program."""


class ZeroUnder(WatchError):
    """A fraction has 0 below the line."""


class BadNumber(WatchError):
    """The number called `name` has a value that is not allowed."""

    def __init__(self, name, value):
        self.name = name
        self.value = value


class TooMany(WatchError):
    """There are more than `most` of what `name` tells."""

    def __init__(self, name, most):
        self.name = name
        self.most = most


class RepeatedHour(WatchError):
    """Two members of a lot are the same hour."""

    def __init__(self, hour):
        self.hour = hour


class Meets(WatchError):
    """An hour is reached in more than one way."""

    def __init__(self, hour):
        self.hour = hour


class OtherHours(WatchError):
    """Two rings have different numbers of hours."""


class OtherHouse(WatchError):
    """Two things belong to different houses."""


class NotADivisor(WatchError):
    """The number is no positive divisor of the number of hours."""

    def __init__(self, number):
        self.number = number


class SharedFactor(WatchError):
    """The factor has a divisor in common with the number of hours."""

    def __init__(self, factor):
        self.factor = factor


class WrongLength(WatchError):
    """A list has a length that does not fit."""

    def __init__(self, length):
        self.length = length


class EmptyLot(WatchError):
    """A lot has no member where it must have one."""


class NotEnough(WatchError):
    """The need of the gate with this index cannot be met."""

    def __init__(self, index):
        self.index = index


class NoPlace(WatchError):
    """There is nothing at this index, cell or start."""


class BadName(WatchError):
    """A name is not 1 to 8 letters from a to z."""

    def __init__(self, name):
        self.name = name


class RepeatedName(WatchError):
    """A name occurs twice where names must differ."""

    def __init__(self, name):
        self.name = name


class UnknownName(WatchError):
    """Nothing has this name."""

    def __init__(self, name):
        self.name = name


class BadSpread(WatchError):
    """The triple with this index is wrong in a spread."""

    def __init__(self, index):
        self.index = index


class BadPast(WatchError):
    """The triple with this index is wrong in a past."""

    def __init__(self, index):
        self.index = index


class KnownCell(WatchError):
    """A try is made at a cell that was looked at."""

    def __init__(self, cell):
        self.cell = cell


class Contradiction(WatchError):
    """Two pasts saw different strengths at the cell."""

    def __init__(self, cell):
        self.cell = cell


class BadShares(WatchError):
    """Weights are below 0 or do not add up to 1."""


class NeverSeen(WatchError):
    """A past has the chance 0."""


class BadStretch(WatchError):
    """The stretch with this index is wrong."""

    def __init__(self, index):
        self.index = index


class NoBeat(WatchError):
    """The crew with this index walks a beat that the book has not."""

    def __init__(self, index):
        self.index = index


class FailedDeed(WatchError):
    """The deed with this index failed, so nothing was done."""

    def __init__(self, index):
        self.index = index


class BadText(WatchError):
    """The line with this number, from 1, is not as it must be written."""

    def __init__(self, line):
        self.line = line


class BadLine(WatchError):
    """The line with this number, from 1, cannot be run."""

    def __init__(self, line):
        self.line = line


class Refused(WatchError):
    """A live object does not allow this now."""


class NotDrawn(Refused):
    """No member has been drawn yet."""


class NothingLeft(Refused):
    """There is nothing to undo or redo."""


class AlreadySeen(Refused):
    """The cell was looked at before."""

    def __init__(self, cell):
        self.cell = cell


class AlreadyAway(Refused):
    """The person is away already."""

    def __init__(self, name):
        self.name = name


class NotAway(Refused):
    """The person is not away."""

    def __init__(self, name):
        self.name = name
