"""The saddle of a game of whole numbers above 0, whose columns are taken in one after another."""

from watchbeats.ratio import Ratio


class Saddle:
    """The simplex method with exact numbers: the first side picks one of `many` lines, the second side a column.

    The second side looks for shares y of its columns whose sum is as great as possible while no line is paid more
    than 1. The numbers are the tops of fractions that all have `under` below the line, so each division is exact.
    """

    def __init__(self, many):
        self.under = 1
        self.total = 0
        self.pays = [0] * many
        # The share that each line of the basis stands for, then its row of the inverse of the basis.
        self._lines = [[1] + [int(at == line) for at in range(many)] for line in range(many)]
        self._places = [None] * many

    def wants(self, column):
        """True if a column of entries above 0 pays less than all that were taken in."""
        return sum([pay * entry for pay, entry in zip(self.pays, column)]) < self.under

    def take(self, column, place):
        """Takes in a column that is wanted, under the name of a place that is not None."""
        self._enter(column, self.under, place)
        below = self._below()
        # No line can be picked with a weight below 0, so it may be paid less than 1: its slack comes back.
        while below:
            self._enter([int(at == below[0]) for at in range(len(self.pays))], 0, None)
            below = self._below()

    def level(self):
        """The worth of the game with the columns that were taken in."""
        return Ratio(self.under, self.total)

    def line_weights(self):
        """The weights with which the first side picks its lines."""
        return [Ratio(pay, self.total) for pay in self.pays]

    def column_shares(self):
        """The pairs of a place and its share above 0, with which the second side picks its columns."""
        return [(place, Ratio(line[0], self.total)) for place, line in zip(self._places, self._lines)
                if place is not None and line[0] > 0]

    def _below(self):
        """The lines that are weighed below 0."""
        return [at for at, pay in enumerate(self.pays) if pay < 0]

    def _enter(self, column, gain, place):
        """One step of the method: the column comes into the basis and another one leaves it."""
        lack = gain - sum([pay * entry for pay, entry in zip(self.pays, column)])
        steps = [sum([part * entry for part, entry in zip(line[1:], column)]) for line in self._lines]
        leaving = _first_to_leave(self._lines, steps)
        pivot = steps[leaving]
        chosen = self._lines[leaving]
        row = _turned([self.total] + self.pays, pivot, lack, chosen, self.under)
        lines = [_turned(line, pivot, -step, chosen, self.under) for line, step in zip(self._lines, steps)]
        lines[leaving] = chosen
        self._lines = lines
        self.total = row[0]
        self.pays = row[1:]
        self.under = pivot
        self._places[leaving] = place


def _turned(line, pivot, by, chosen, under):
    """The line times the pivot and the chosen line times `by`, without the old factor."""
    return [(pivot * x + by * y) // under for x, y in zip(line, chosen)]


def _first_to_leave(lines, steps):
    """The index of the line that reaches 0 first; whole lines are compared, so that no basis can come back."""
    first = None
    for at, step in enumerate(steps):
        if step > 0:
            if first is None or [x * steps[first] for x in lines[at]] < [x * step for x in lines[first]]:
                first = at
    return first
