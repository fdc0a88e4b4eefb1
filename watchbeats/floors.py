"""Floors: bounds of turned watches that can be read from differences of lots."""

from watchbeats.crews import Crew
from watchbeats.differences import meetings
from watchbeats.errors import BadNumber
from watchbeats.evenlots import least_lots
from watchbeats.houses import House
from watchbeats.pasts import check_looks
from watchbeats.plans import Plan
from watchbeats.ratio import Ratio, greatest
from watchbeats.turning import turned_bound
from watchbeats.watches import Watch
from watchbeats.whole import check_number

_MOST_LOT_HOURS = 12
_MOST_START_HOURS = 8


def no_look_bound(house, lots):
    """The bound of the turned watch of the lots for one try and no look."""
    # This raises what is wrong with the lots.
    Watch.of_lots(house, lots)
    return greatest([Ratio(stake * len(~lot), house.hours) for stake, lot in zip(house.stakes, lots)])


def one_look_bound(house, lots):
    """The bound of the turned watch of the lots for one try and one look."""
    means = [no_look_bound(house, lots)]
    for g, seen in enumerate(lots):
        for f, tried in enumerate(lots):
            for mean in _means_after(seen, tried, int(f == g)):
                means.append(mean * house.stakes[f])
    return greatest(means)


def floor_bound(hours, size, stake, *, looks=0):
    """A bound that no lot with so many members of a ring can be below."""
    if hours < 1:
        raise BadNumber("hours", hours)
    check_number("size", size, 0, hours)
    if stake < 0:
        raise BadNumber("stake", stake)
    check_looks(looks, 1)
    if looks == 0:
        return Ratio(stake * (hours - size), hours)
    if size == 0:
        return Ratio(stake)
    if size == hours:
        return Ratio(0)
    return Ratio(stake * (hours - size), hours - 1)


def best_lots(hours, size):
    """The least bound with one look for a lot with so many members, and the lots that have it."""
    check_number("hours", hours, 1, _MOST_LOT_HOURS)
    check_number("size", size, 0, hours)
    house = House(hours, [("a", 1)])
    lots = least_lots(hours, size)
    return _least(lots, [one_look_bound(house, [lot]) for lot in lots])


def best_starts(beat, guards, *, tries=1, looks=0):
    """The least bound of a turned plan with so many guards on the beat, and the starts that have it."""
    house = beat.house
    check_number("hours", house.hours, 1, _MOST_START_HOURS)
    check_number("guards", guards, 0, house.hours)
    lots = least_lots(house.hours, guards)
    watches = [Plan(house, Crew(beat, starts)).watch() for starts in lots]
    return _least(lots, [turned_bound(watch, tries=tries, looks=looks).bound for watch in watches])


def _means_after(seen, tried, first):
    """How often a try `first` or more hours after a look is met by no guard, for each of these hours.

    The list tells it for looks that saw a guard, then for looks that saw none, where there are any.
    """
    means = []
    if len(seen) > 0:
        counts = meetings(tried, seen)[first:]
        means = [Ratio(len(seen) - count, len(seen)) for count in counts]
    if len(~seen) > 0:
        counts = meetings(~tried, ~seen)[first:]
        means = means + [Ratio(count, len(~seen)) for count in counts]
    return means


def _least(lots, bounds):
    """The least bound, and the lots that have it."""
    least = -greatest([-bound for bound in bounds])
    return least, [lot for lot, bound in zip(lots, bounds) if bound == least]
