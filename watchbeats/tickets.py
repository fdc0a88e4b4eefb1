"""Tickets: weights as tickets that are all drawn with the same chance."""

from watchbeats.errors import BadNumber, NoPlace, TooMany
from watchbeats.ratio import over_one
from watchbeats.shares import check_shares

_MOST_WEIGHTS = 12


class Tickets:
    """As many tickets for each index as its weight asks for, those of index 0 first; it does not change."""

    def __init__(self, weights):
        if len(weights) == 0:
            raise BadNumber("weights", 0)
        if len(weights) > _MOST_WEIGHTS:
            raise TooMany("weights", _MOST_WEIGHTS)
        check_shares(weights)
        total, tops = over_one(weights)
        self.total = total
        self._tickets_each = tops

    def many(self, index):
        """The number of tickets of an index."""
        if index < 0 or index >= len(self._tickets_each):
            raise NoPlace()
        return self._tickets_each[index]

    def ticket(self, number):
        """The index of the ticket with this number."""
        if number < 0 or number >= self.total:
            raise NoPlace()
        left = number
        index = 0
        while left >= self._tickets_each[index]:
            left = left - self._tickets_each[index]
            index = index + 1
        return index
