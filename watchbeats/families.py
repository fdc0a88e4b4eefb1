"""Families: the watches of which one is drawn."""

from watchbeats.errors import NoPlace, OtherHouse
from watchbeats.watches import check_house, check_many


class Family:
    """1 to 8 watches of one house, its members; it does not change."""

    MOST = 8

    def __init__(self, house, watches):
        check_many(watches, Family.MOST)
        check_house(house, watches)
        self.house = house
        self._watches = list(watches)

    @classmethod
    def turns(cls, watch):
        """The family of all turns of a watch that are not equal."""
        return cls(watch.house, [watch << by for by in range(watch.step)])

    @property
    def goes_round(self):
        """True if each member turned by 1 is equal to some member."""
        return all([(watch << 1) in self._watches for watch in self._watches])

    def kinds(self):
        """The lists of the indexes of equal members."""
        watches = self._watches
        firsts = [at for at, watch in enumerate(watches) if watches.index(watch) == at]
        return [[at for at, watch in enumerate(watches) if watch == watches[first]] for first in firsts]

    def __len__(self):
        return len(self._watches)

    def __iter__(self):
        return iter(self._watches)

    def __getitem__(self, at):
        if at < 0 or at >= len(self._watches):
            raise NoPlace()
        return self._watches[at]

    def __contains__(self, x):
        return x in self._watches

    def __eq__(self, other):
        return isinstance(other, Family) and self.house == other.house and self._watches == other._watches

    def __lshift__(self, other):
        return Family(self.house, [watch << other for watch in self._watches])

    def __add__(self, other):
        if self.house != other.house:
            raise OtherHouse()
        return Family(self.house, self._watches + other._watches)
