"""The best spread: what gains most against watches with weights."""

from watchbeats.errors import BadNumber, NoPlace, WrongLength
from watchbeats.gains import best_spread_of, losses_at, most_gains, weighed
from watchbeats.ratio import Ratio, over_one
from watchbeats.spreads import open_cells_of
from watchbeats.watches import check_house, check_many

_MOST_WATCHES = 24


class Best:
    """The spread that gains most, and the table of gains that shows it."""

    def __init__(self, open_cells, gains, tries, under):
        # The gains are whole numbers, the tops of fractions with one `under`.
        self._gains = gains
        self._most = most_gains(gains, tries)
        self._under = under
        self.open_cells = open_cells
        self.worth = self.most_from(0, tries)
        self.spread = best_spread_of(open_cells, gains, self._most)

    def gain(self, i, x):
        """What x tries gain at the open cell with index i, a Ratio."""
        if not _is_index(self._gains, i) or not _is_index(self._gains[i], x):
            raise NoPlace()
        return Ratio(self._gains[i][x], self._under)

    def most_from(self, i, left):
        """The most that at most so many tries gain at the open cells from index i on, a Ratio."""
        if not _is_index(self._most, i) or not _is_index(self._most[i], left):
            raise NoPlace()
        return Ratio(self._most[i][left], self._under)


def best_spread(watches, weights, *, tries=1, known=()):
    """The Best against a list of watches with weights."""
    check_many(watches, _MOST_WATCHES)
    house = watches[0].house
    check_house(house, watches)
    if len(weights) != len(watches):
        raise WrongLength(len(weights))
    for weight in weights:
        if weight < 0:
            raise BadNumber("weight", weight)
    cells = open_cells_of(house, tries, known)
    under, tops = over_one(weights)
    gains = []
    for gate, hour in cells:
        strengths = [[watch[gate, hour]] for watch in watches]
        gains.append(weighed(losses_at(house.stakes[gate], strengths, tries), tops))
    return Best(cells, gains, tries, under)


def _is_index(row, at):
    return at >= 0 and at < len(row)
