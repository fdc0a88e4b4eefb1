"""Fewest starts: as few starts as meet the need of each gate in each hour."""

from watchbeats.bits import bit_counts, bits_of, listed
from watchbeats.differences import meetings
from watchbeats.errors import BadNumber, NotEnough, OtherHours, TooMany, WrongLength
from watchbeats.lots import Lot

_MOST_LOTS = 4
_MOST_HOURS = 12
_MOST_NEED = 3


class Fewest:
    """Starts that are enough, and the tree of cases that shows that fewer are not."""

    def __init__(self, starts, tree):
        self.starts = starts
        self.tree = tree


class Demand:
    """What the gates ask of starts; sets of starts are ints with one bit for each start."""

    def __init__(self, lots, needs):
        self.hours = lots[0].hours
        self.needs = list(needs)
        self.sizes = [len(lot) for lot in lots]
        self.meeting = [[_starts_meeting(lot, hour) for hour in range(lot.hours)] for lot in lots]
        self.counted = bit_counts(self.hours)

    def lacks(self, taken, gate):
        """The lack at each hour of a gate."""
        counts = self.counted
        need = self.needs[gate]
        return [max(0, need - counts[taken & starts]) for starts in self.meeting[gate]]

    def is_met(self, taken):
        """True if these starts are enough."""
        return all([sum(self.lacks(taken, gate)) == 0 for gate in range(len(self.needs))])


def is_enough(lots, needs, starts):
    """True if each gate has what it needs in each hour."""
    _check(lots, needs)
    if starts.hours != lots[0].hours:
        raise OtherHours()
    return all([count >= need for lot, need in zip(lots, needs) for count in meetings(lot, -starts)])


def fewest_starts(lots, needs):
    """The Fewest of the lots with these needs."""
    _check(lots, needs)
    for gate, need in enumerate(needs):
        if need > len(lots[gate]):
            raise NotEnough(gate)
    demand = Demand(lots, needs)
    starts = Lot(demand.hours, listed(_least_met(demand)))
    if len(starts) == 0:
        return Fewest(starts, None)
    return Fewest(starts, _tree(demand, 0, 0, len(starts) - 1))


def _check(lots, needs):
    if len(lots) == 0:
        raise BadNumber("lots", 0)
    if len(lots) > _MOST_LOTS:
        raise TooMany("lots", _MOST_LOTS)
    hours = lots[0].hours
    if hours > _MOST_HOURS:
        raise BadNumber("hours", hours)
    for lot in lots:
        if lot.hours != hours:
            raise OtherHours()
    if len(needs) != len(lots):
        raise WrongLength(len(needs))
    for need in needs:
        if need < 0 or need > _MOST_NEED:
            raise BadNumber("need", need)


def _starts_meeting(lot, hour):
    """The bits of the starts s with hour - s in the lot."""
    return bits_of([(hour - member) % lot.hours for member in lot])


def _least_met(demand):
    """The bits of starts that are enough, as few as possible."""
    counts = demand.counted
    least = len(counts) - 1
    for taken in range(len(counts)):
        if counts[taken] < counts[least] and demand.is_met(taken):
            least = taken
    return least


def _tree(demand, taken, barred, room):
    """The tree of cases of a case in which no starts are enough."""
    lacks = [demand.lacks(taken, gate) for gate in range(len(demand.needs))]
    for gate, size in enumerate(demand.sizes):
        if sum(lacks[gate]) > room * size:
            return ("count", gate)
    spare = None
    place = (0, 0)
    for gate, row in enumerate(lacks):
        for hour, lack in enumerate(row):
            free = demand.meeting[gate][hour] & ~taken & ~barred
            left = demand.counted[free] - lack
            if left < 0:
                return ("few", gate, hour)
            if lack > 0 and (spare is None or left < spare):
                spare = left
                place = (gate, hour)
    return _split(demand, taken, barred, room, place)


def _split(demand, taken, barred, room, place):
    """The tree that takes each free start at the place in turn."""
    gate, hour = place
    branches = []
    below = barred
    for start in listed(demand.meeting[gate][hour] & ~taken & ~barred):
        branches.append(_tree(demand, taken | 1 << start, below, room - 1))
        below = below | 1 << start
    return ("split", gate, hour, tuple(branches))
