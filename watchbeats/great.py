"""Great watches: guards on rings that are too great to list, and their bounds."""

from watchbeats.errors import BadNumber, OtherHours, TooMany, WrongLength
from watchbeats.houses import House
from watchbeats.pasts import check_looks
from watchbeats.ratio import Ratio
from watchbeats.stretches import MOST_HOURS, bends, common
from watchbeats.watches import Watch
from watchbeats.whole import check_number

_NAMES = ("a", "b", "c", "d")


class GreatWatch:
    """For each gate a stake and the hours in which there is a guard; it does not change."""

    def __init__(self, hours, stakes, rows):
        check_number("hours", hours, 1, MOST_HOURS)
        if len(stakes) == 0:
            raise BadNumber("gates", 0)
        if len(stakes) > House.MOST_GATES:
            raise TooMany("gates", House.MOST_GATES)
        for stake in stakes:
            check_number("stake", stake, 0, House.MOST_STAKE)
        if len(rows) != len(stakes):
            raise WrongLength(len(rows))
        for row in rows:
            if row.hours != hours:
                raise OtherHours()
        self.hours = hours
        self.stakes = tuple(stakes)
        self._rows = list(rows)

    @property
    def lots(self):
        """The list of the Stretches, gate by gate."""
        return list(self._rows)

    def listed(self):
        """The watch with the same guards on a house whose gates are a, b and so on."""
        house = House(self.hours, list(zip(_NAMES, self.stakes)))
        return Watch.of_lots(house, [row.listed() for row in self._rows])


class GreatBound:
    """The bound of a great watch and a place where it is reached."""

    def __init__(self, bound, target, sight, later):
        self.bound = bound
        self.target = target
        self.sight = sight
        self.later = later


def great_bound(great, *, looks=0):
    """The GreatBound of a great watch that is turned round its ring by chance, for one try."""
    check_looks(looks, 1)
    gates = list(range(len(great.stakes)))
    places = [_place_unseen(great, target) for target in gates]
    if looks == 1:
        for gate in gates:
            for target in gates:
                places.extend(_places_seen(great, gate, target))
    best = places[0]
    for place in places:
        if place.bound > best.bound:
            best = place
    return best


def _place_unseen(great, target):
    """The mean loss of a try at a gate without a look."""
    met = great.lots[target].size
    return GreatBound(Ratio(great.stakes[target] * (great.hours - met), great.hours), target, None, None)


def _places_seen(great, gate, target):
    """The greatest mean losses of a try at the target after a look at the gate that saw a guard, or saw none."""
    hours = great.hours
    stake = great.stakes[target]
    seen = great.lots[gate].size
    laters = _laters(great, gate, target)
    counts = [common(great.lots[target], great.lots[gate], by) for by in laters]
    places = []
    if seen > 0 and laters:
        least = min([int(count) for count in counts])
        bound = Ratio(stake * (seen - least), seen)
        places.append(GreatBound(bound, target, (gate, 1), laters[counts.index(least)]))
    if seen < hours and laters:
        most = max([int(count) for count in counts])
        # The hours without a guard at both gates; those with one at either gate are counted off.
        free = hours - seen - great.lots[target].size + most
        places.append(GreatBound(Ratio(stake * free, hours - seen), target, (gate, 0), laters[counts.index(most)]))
    return places


def _laters(great, gate, target):
    """Hours after a look among which the fewest and the most guards are met; no try is made where the look was."""
    first = int(gate == target)
    edges = bends(great.lots[target], great.lots[gate]) + [0, 1, great.hours - 1]
    return [by for by in edges if by >= first and by < great.hours]
