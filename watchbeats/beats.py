"""Beats: where a guard is in each hour of the ring."""

from watchbeats.errors import BadNumber, NoPlace, WrongLength
from watchbeats.houses import is_gate
from watchbeats.lots import Lot

REST = -1


class Beat:
    """For each hour the index of a gate, or -1 for rest; it does not change."""

    def __init__(self, house, steps):
        if len(steps) != house.hours:
            raise WrongLength(len(steps))
        for step in steps:
            if step != REST and not is_gate(house, step):
                raise BadNumber("step", step)
        self.house = house
        self.steps = tuple(steps)

    def lot(self, gate):
        """The lot of the hours at a gate, or of those of rest for -1."""
        if gate != REST and not is_gate(self.house, gate):
            raise NoPlace()
        return Lot(self.house.hours, [hour for hour, step in enumerate(self.steps) if step == gate])

    def __getitem__(self, at):
        return self.steps[at % self.house.hours]

    def __iter__(self):
        raise TypeError("a beat is not iterated over, but its steps are")

    def __eq__(self, other):
        return isinstance(other, Beat) and self.house == other.house and self.steps == other.steps

    def __lshift__(self, other):
        return Beat(self.house, [self[hour - other] for hour in range(self.house.hours)])
