"""Plans: crews put together in one house."""

from watchbeats.errors import NoPlace, OtherHouse, TooMany
from watchbeats.watches import Watch

_MOST_CREWS = 4


class Plan:
    """Up to 4 crews of one house; it does not change."""

    def __init__(self, house, *crews):
        if len(crews) > _MOST_CREWS:
            raise TooMany("crews", _MOST_CREWS)
        for crew in crews:
            if crew.beat.house != house:
                raise OtherHouse()
        self.house = house
        self.crews = crews

    @property
    def guards(self):
        """The number of all guards."""
        return sum([len(crew) for crew in self.crews])

    def watch(self):
        """The watch that counts the guards of all crews at each cell."""
        return Watch(self.house, [self._row(gate) for gate in range(len(self.house))])

    def without(self, index):
        """The plan without the crew with this index."""
        self._check(index)
        others = self.crews[:index] + self.crews[index + 1:]
        return Plan(self.house, *others)

    def sole(self, index):
        """The cells, in ascending order, at which this crew has a guard and no other crew has one."""
        others = self.without(index).watch()
        own = Plan(self.house, self.crews[index]).watch()
        return [cell for cell in self.house.cells() if own[cell] > 0 and others[cell] == 0]

    def _check(self, index):
        if index < 0 or index >= len(self.crews):
            raise NoPlace()

    def _row(self, gate):
        """How many guards of all crews are at the gate in each hour."""
        row = [0] * self.house.hours
        for crew in self.crews:
            row = [many + more for many, more in zip(row, crew.row(gate))]
        return row

    def __eq__(self, other):
        return isinstance(other, Plan) and self.house == other.house and self.crews == other.crews

    def __lshift__(self, other):
        crews = [crew << other for crew in self.crews]
        return Plan(self.house, *crews)

    def __add__(self, other):
        if self.house != other.house:
            raise OtherHouse()
        crews = self.crews + other.crews
        return Plan(self.house, *crews)
