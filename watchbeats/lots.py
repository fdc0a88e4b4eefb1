"""Lots: sets of hours of a ring."""

from watchbeats.errors import BadNumber, Meets, NotADivisor, OtherHours, RepeatedHour
from watchbeats.whole import divisors


class Lot:
    """A set of hours of a ring of `hours` hours; it does not change."""

    MOST = 360

    def __init__(self, hours, members):
        if hours < 1 or hours > Lot.MOST:
            raise BadNumber("hours", hours)
        taken = [False] * hours
        for member in members:
            if taken[member % hours]:
                raise RepeatedHour(member % hours)
            taken[member % hours] = True
        self.hours = hours
        self._members = [hour for hour in range(hours) if taken[hour]]

    @classmethod
    def full(cls, hours):
        """The lot of all hours."""
        return ~cls(hours, [])

    @property
    def members(self):
        """The ascending list of the members."""
        return list(self._members)

    @property
    def step(self):
        """The least k from 1 on by which the lot can be turned without a change."""
        for by in divisors(self.hours):
            if self << by == self:
                return by
        return self.hours

    def least_turn(self):
        """The turned lot whose list of members is the least."""
        least = self
        # Only a turn that puts a member at 0 can be the least one.
        for member in self._members:
            turn = self >> member
            if turn.members < least.members:
                least = turn
        return least

    def __len__(self):
        return len(self._members)

    def __iter__(self):
        return iter(self._members)

    def __contains__(self, x):
        return x % self.hours in self._members

    def __eq__(self, other):
        return isinstance(other, Lot) and self.hours == other.hours and self._members == other._members

    def __lshift__(self, other):
        return Lot(self.hours, [member + other for member in self._members])

    def __rshift__(self, other):
        return Lot(self.hours, [member - other for member in self._members])

    def __neg__(self):
        return Lot(self.hours, [-member for member in self._members])

    def __invert__(self):
        return Lot(self.hours, [hour for hour in range(self.hours) if hour not in self._members])

    def __or__(self, other):
        _check_hours(self, other)
        more = [hour for hour in other._members if hour not in self._members]
        return Lot(self.hours, self._members + more)

    def __and__(self, other):
        _check_hours(self, other)
        return Lot(self.hours, [hour for hour in self._members if hour in other._members])

    def __mul__(self, other):
        return _lot_of_each(self.hours, [member * other for member in self._members])

    def __rmul__(self, other):
        return self * other

    def __add__(self, other):
        _check_hours(self, other)
        return _lot_of_each(self.hours, [one + two for one in self._members for two in other._members])

    def __mod__(self, other):
        if other < 1 or self.hours % other != 0:
            raise NotADivisor(other)
        return _lot_of_each(other, self._members)

    def __pow__(self, other):
        if other < 1:
            raise BadNumber("times", other)
        hours = self.hours * other
        if hours > Lot.MOST:
            raise BadNumber("hours", hours)
        return Lot(hours, [member + at * self.hours for at in range(other) for member in self._members])


def _check_hours(one, other):
    if one.hours != other.hours:
        raise OtherHours()


def _lot_of_each(hours, numbers):
    """The lot of the residues of the numbers; Meets tells the least residue that occurs twice."""
    times = [0] * hours
    for number in numbers:
        times[number % hours] = times[number % hours] + 1
    for hour in range(hours):
        if times[hour] > 1:
            raise Meets(hour)
    return Lot(hours, numbers)
