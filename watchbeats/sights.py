"""What can be seen of groups of watches, and what tries lose them then; all in whole numbers."""

from watchbeats.gains import best_spread_of, losses_at, most_gains, weighed
from watchbeats.pasts import known_cells


class Sight:
    """What groups of watches of one house still can lose after a past, by at most so many tries."""

    def __init__(self, groups, past, tries):
        house = groups[0][0].house
        left = [_fitting([watch.rows for watch in group], past) for group in groups]
        known = known_cells(past)
        self.past = past
        self.tries = tries
        # How many watches of each group fit the past.
        self.fit_counts = [len(group) for group in left]
        self._open_cells = [cell for cell in house.cells() if cell not in known]
        self._losses = []
        for gate, hour in self._open_cells:
            strengths = [[rows[gate][hour] for rows in group] for group in left]
            self._losses.append(losses_at(house.stakes[gate], strengths, tries))

    def most_lost(self, weights):
        """The most that any spread loses the groups, each by its weight."""
        return most_gains(self._weighed_gains(weights), self.tries)[0][self.tries]

    def worst_spread(self, weights):
        """A spread that loses the groups most."""
        gains = self._weighed_gains(weights)
        return best_spread_of(self._open_cells, gains, most_gains(gains, self.tries))

    def losses_by(self, spread):
        """What a spread at the open cells loses each group."""
        total = [0] * len(self.fit_counts)
        for gate, hour, tries in spread:
            losses = self._losses[self._open_cells.index((gate, hour))]
            total = [one + two for one, two in zip(total, losses[tries])]
        return total

    def _weighed_gains(self, weights):
        """For each open cell what 0 tries and more gain there."""
        return [weighed(losses, weights) for losses in self._losses]


def _fitting(group, past):
    """Those of a list of rows of strengths that fit the past."""
    return [rows for rows in group if all([rows[gate][hour] == strength for gate, hour, strength in past])]
