"""Orbits: tables of watches that are turned round the ring by chance."""

from watchbeats.closing import Stand, close
from watchbeats.ratio import as_ratio
from watchbeats.tables import check_limits, check_pasts
from watchbeats.turning import all_turns, pasts_from_zero
from watchbeats.watches import check_house, check_many

_MOST_WATCHES = 4


class TurnTable:
    """The value of turned watches with a bound, and the weights and prices that show it."""

    def __init__(self, watches, bound, tries, looks, closed):
        self.watches = watches
        self.bound = as_ratio(bound)
        self.tries = tries
        self.looks = looks
        self.value = closed.value
        self.weights = closed.weights
        self.prices = closed.prices

    @property
    def held(self):
        """True if the house can draw within the bound."""
        return self.value >= 0


def close_turns(watches, bound, *, tries=1, looks=0):
    """The TurnTable of a list of watches with a bound."""
    check_many(watches, _MOST_WATCHES)
    house = watches[0].house
    check_house(house, watches)
    check_limits(house, tries, looks)
    groups = [all_turns(watch) for watch in watches]
    seen = pasts_from_zero([turn for group in groups for turn in group], looks)
    check_pasts(seen)
    closed = close(Stand(groups, seen, tries), bound)
    return TurnTable(list(watches), bound, tries, looks, closed)
