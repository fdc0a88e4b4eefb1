"""Crews: guards who walk one beat with different starts."""

from watchbeats.beats import REST
from watchbeats.differences import meetings
from watchbeats.errors import NoPlace, OtherHours
from watchbeats.houses import is_gate


class Crew:
    """One guard on the beat for each member of the lot of starts; it does not change."""

    def __init__(self, beat, starts):
        if starts.hours != beat.house.hours:
            raise OtherHours()
        self.beat = beat
        self.starts = starts

    def row(self, gate):
        """How many guards are at the gate in each hour."""
        if not is_gate(self.beat.house, gate):
            raise NoPlace()
        return meetings(self.beat.lot(gate), -self.starts)

    def working(self, start):
        """The lot of the hours in which the guard with this start does not rest."""
        if start not in self.starts:
            raise NoPlace()
        return ~self.beat.lot(REST) << start

    def __len__(self):
        return len(self.starts)

    def __eq__(self, other):
        return isinstance(other, Crew) and self.beat == other.beat and self.starts == other.starts

    def __lshift__(self, other):
        return Crew(self.beat, self.starts << other)
