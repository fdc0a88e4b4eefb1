"""Stretches: hours of a great ring, told by a few stretches of neighbouring hours."""

from watchbeats.errors import BadNumber, BadStretch, OtherHours, TooMany
from watchbeats.lots import Lot
from watchbeats.whole import check_number

MOST_HOURS = 10 ** 40


class Stretches:
    """A set of hours of a ring that can be too great to list; it does not change."""

    MOST = 6

    def __init__(self, hours, stretches):
        check_number("hours", hours, 1, MOST_HOURS)
        if len(stretches) > Stretches.MOST:
            raise TooMany("stretches", Stretches.MOST)
        for at, stretch in enumerate(stretches):
            if not _is_stretch(hours, stretch) or _touched(hours, [stretch], stretches[:at]) > 0:
                raise BadStretch(at)
        self.hours = hours
        self._pieces = _joined(hours, stretches)

    @property
    def pieces(self):
        """The list of the longest stretches of neighbouring hours, in ascending order."""
        return list(self._pieces)

    @property
    def size(self):
        """The number of hours of the set."""
        return sum([length for start, length in self._pieces])

    def listed(self):
        """The Lot of the same hours."""
        check_number("hours", self.hours, 1, Lot.MOST)
        return Lot(self.hours, [hour for hour in range(self.hours) if hour in self])

    def __contains__(self, x):
        return any([(x - start) % self.hours < length for start, length in self._pieces])

    def __eq__(self, other):
        return isinstance(other, Stretches) and self.hours == other.hours and self._pieces == other._pieces

    def __lshift__(self, other):
        return Stretches(self.hours, [((start + other) % self.hours, length) for start, length in self._pieces])

    def __invert__(self):
        pieces = self._pieces
        if len(pieces) == 0:
            return Stretches(self.hours, [(0, self.hours)])
        gaps = []
        # Behind the last piece comes the first one again.
        for (start, length), (following, more) in zip(pieces, pieces[1:] + pieces[:1]):
            gap = (following - start - length) % self.hours
            if gap > 0:
                gaps.append(((start + length) % self.hours, gap))
        return Stretches(self.hours, gaps)

    def __mul__(self, other):
        if other < 1:
            raise BadNumber("times", other)
        return Stretches(self.hours * other, [(start * other, length * other) for start, length in self._pieces])


def common(one, other, by):
    """The number of hours that belong to one and to the other turned by so many hours."""
    _check_hours(one, other)
    return _touched(one.hours, one.pieces, [(start + by, length) for start, length in other.pieces])


def bends(one, other):
    """The ascending list of the differences of a start or an end in one and a start or an end in the other."""
    _check_hours(one, other)
    found = {}
    for edge in _edges(one):
        for far_edge in _edges(other):
            found[(edge - far_edge) % one.hours] = True
    return sorted([int(by) for by in found])


def _check_hours(one, other):
    if one.hours != other.hours:
        raise OtherHours()


def _is_stretch(hours, stretch):
    start, length = stretch
    return start >= 0 and start < hours and length >= 1 and length <= hours


def _touched(hours, ones, others):
    """The number of hours that two lists of stretches have in common; within each list no hour occurs twice."""
    total = 0
    for start, length in ones:
        for far_start, far_length in others:
            # The other stretch begins so many hours after this one, and can reach it once more from behind.
            begin = (far_start - start) % hours
            end = begin + far_length
            total = total + max(0, min(int(length), int(end)) - begin) + max(0, min(int(length), int(end - hours)))
    return total


def _joined(hours, stretches):
    """The longest stretches of neighbouring hours of some stretches without an hour in common."""
    lengths = {start: length for start, length in stretches}
    if sum([length for start, length in stretches]) == hours:
        return [(0, hours)]
    ends = [(start + length) % hours for start, length in stretches]
    pieces = []
    for start in sorted([int(start) for start in lengths]):
        if start not in ends:
            length = lengths[start]
            while (start + length) % hours in lengths:
                length = length + lengths[(start + length) % hours]
            pieces.append((start, length))
    return pieces


def _edges(stretches):
    """The starts and the ends of all pieces."""
    return ([start for start, length in stretches.pieces]
            + [start + length for start, length in stretches.pieces])
