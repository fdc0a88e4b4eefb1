"""Watches: how many guards stand at each gate in each hour."""

from math import gcd

from watchbeats.errors import BadNumber, NoPlace, OtherHours, OtherHouse, SharedFactor, TooMany, WrongLength
from watchbeats.houses import is_gate
from watchbeats.lots import Lot
from watchbeats.whole import divisors


class Watch:
    """A strength for each cell of a house; it does not change."""

    MOST = 96

    def __init__(self, house, rows):
        if len(rows) != len(house):
            raise WrongLength(len(rows))
        for row in rows:
            _check_row(house, row)
        self.house = house
        self._rows = tuple([tuple(row) for row in rows])

    @classmethod
    def of_lots(cls, house, lots):
        """The strength 1 at each gate in the members of its lot, and 0 otherwise."""
        if len(lots) != len(house):
            raise WrongLength(len(lots))
        for lot in lots:
            if lot.hours != house.hours:
                raise OtherHours()
        return cls(house, [[int(hour in lot) for hour in range(house.hours)] for lot in lots])

    @classmethod
    def empty(cls, house):
        """The strength 0 everywhere."""
        return cls(house, [[0] * house.hours for _ in house.names])

    @property
    def rows(self):
        """The list of the lists of strengths, gate by gate."""
        return [list(row) for row in self._rows]

    @property
    def step(self):
        """The least k from 1 on by which the watch can be turned without a change."""
        for by in divisors(self.house.hours):
            if self << by == self:
                return by
        return self.house.hours

    def met(self, gate, *, least=1):
        """The lot of the hours in which the strength at the gate is at least `least`."""
        if not is_gate(self.house, gate):
            raise NoPlace()
        row = self._rows[gate]
        return Lot(self.house.hours, [hour for hour, strength in enumerate(row) if strength >= least])

    def unmet(self, least):
        """Yields the cells with a strength below `least`, in ascending order."""
        for gate, hour in self.house.cells():
            if self._rows[gate][hour] < least:
                yield (gate, hour)

    def covers(self, other):
        """True if the strength is nowhere below that of the other watch."""
        check_house(self.house, [other])
        return all([self[gate, hour] >= other[gate, hour] for gate, hour in self.house.cells()])

    def __getitem__(self, at):
        gate, hour = at
        if not is_gate(self.house, gate):
            raise NoPlace()
        return self._rows[gate][hour % self.house.hours]

    def __iter__(self):
        raise TypeError("a watch is not iterated over, but its rows are")

    def __eq__(self, other):
        return isinstance(other, Watch) and self.house == other.house and self._rows == other._rows

    def __lshift__(self, other):
        hours = self.house.hours
        rows = [[row[(hour - other) % hours] for hour in range(hours)] for row in self._rows]
        return Watch(self.house, rows)

    def __neg__(self):
        return self * -1

    def __mul__(self, other):
        hours = self.house.hours
        shared = gcd(other, hours)
        if shared > 1:
            raise SharedFactor(shared)
        # Each hour is a multiple of `other` here, so each place of the new row is written.
        rows = []
        for row in self._rows:
            stretched = [0] * hours
            for hour, strength in enumerate(row):
                stretched[other * hour % hours] = strength
            rows.append(stretched)
        return Watch(self.house, rows)

    def __rmul__(self, other):
        return self * other

    def __add__(self, other):
        check_house(self.house, [other])
        rows = [[one + two for one, two in zip(row, more)] for row, more in zip(self._rows, other._rows)]
        return Watch(self.house, rows)


def _check_row(house, row):
    if len(row) != house.hours:
        raise WrongLength(len(row))
    for strength in row:
        if strength < 0 or strength > Watch.MOST:
            raise BadNumber("strength", strength)


def check_many(watches, most):
    """Raises BadNumber if there are no watches, and TooMany if there are more than `most`."""
    if len(watches) == 0:
        raise BadNumber("watches", 0)
    if len(watches) > most:
        raise TooMany("watches", most)


def check_house(house, watches):
    """Raises OtherHouse if some watch is on another house."""
    for watch in watches:
        if watch.house != house:
            raise OtherHouse()
