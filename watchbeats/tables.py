"""Tables: whether a house can draw within a bound, shown from both sides."""

from watchbeats.closing import Stand, close
from watchbeats.errors import TooMany
from watchbeats.losses import loss
from watchbeats.pasts import check_looks, check_open, fits, pasts, total_looks
from watchbeats.ratio import Ratio, as_ratio
from watchbeats.spreads import check_tries, total_tries

MOST_TRIES = 3
MOST_LOOKS = 2
_MOST_CELLS = 16
_MOST_PASTS = 100


class Table:
    """The value of a family with a bound, and the weights and prices that show it."""

    def __init__(self, family, bound, tries, looks, closed):
        self.family = family
        self.bound = as_ratio(bound)
        self.tries = tries
        self.looks = looks
        self.value = closed.value
        self.weights = closed.weights
        self.prices = closed.prices
        self._narrowest = closed.least_row

    @property
    def held(self):
        """True if the house can draw within the bound."""
        return self.value >= 0

    def gap(self, past, spread):
        """The sum of weight times entry for any past and spread."""
        total_looks(self.family.house, past)
        total_tries(self.family.house, spread)
        check_open(spread, past)
        total = Ratio(0)
        for weight, watch in zip(self.weights, self.family):
            total = total + weight * self._entry(watch, past, spread)
        return total

    def gain_on(self, index):
        """What the caller of the prices gains on average against a member."""
        watch = self.family[index]
        total = Ratio(0)
        for share, past, spread in self.prices:
            total = total - share * self._entry(watch, past, spread)
        return total

    def narrowest(self):
        """A row whose gap is the value."""
        return self._narrowest

    def _entry(self, watch, past, spread):
        """The entry of a watch in a row."""
        if fits(watch, past):
            return self.bound - loss(watch, spread)
        return Ratio(0)


def close_table(family, bound, *, tries=1, looks=0):
    """The Table of a family with a bound."""
    return Table(family, bound, tries, looks, close(stand_of(family, tries, looks), bound))


def stand_of(family, tries, looks):
    """The Stand of a family, each member by itself, with the checks of `close_table`."""
    check_limits(family.house, tries, looks)
    seen = list(pasts(family, looks=looks))
    check_pasts(seen)
    return Stand([[watch] for watch in family], seen, tries)


def check_limits(house, tries, looks):
    """Checks the tries, the looks and the cells of a table."""
    check_tries(tries, MOST_TRIES)
    check_looks(looks, MOST_LOOKS)
    check_cells(house)


def check_cells(house):
    """Raises TooMany if the house has too many cells for a table."""
    if house.hours * len(house) > _MOST_CELLS:
        raise TooMany("cells", _MOST_CELLS)


def check_pasts(seen):
    """Raises TooMany if there are too many pasts for a table."""
    if len(seen) > _MOST_PASTS:
        raise TooMany("pasts", _MOST_PASTS)
