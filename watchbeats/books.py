"""Books: a house with named beats and named plans."""

from watchbeats.errors import NoBeat, OtherHouse, TooMany, UnknownName
from watchbeats.houses import check_name, check_new_name

_MOST_BEATS = 8
_MOST_PLANS = 8


class Book:
    """The beats and plans of a house by their names; beats are added, and plans are set and dropped."""

    def __init__(self, house):
        self.house = house
        self._beats = {}
        self._plans = {}

    @property
    def beat_names(self):
        """The list of the names of the beats, in order."""
        return list(self._beats)

    def add_beat(self, name, beat):
        """Puts a new beat behind the others."""
        check_new_name(name, self.beat_names)
        if beat.house != self.house:
            raise OtherHouse()
        if len(self._beats) == _MOST_BEATS:
            raise TooMany("beats", _MOST_BEATS)
        self._beats[name] = beat

    def beat_named(self, name):
        """The beat of this name."""
        if name not in self._beats:
            raise UnknownName(name)
        return self._beats[name]

    def set_plan(self, name, plan):
        """Sets the plan of this name; a new name comes last."""
        check_name(name)
        if plan.house != self.house:
            raise OtherHouse()
        beats = list(self._beats.values())
        for at, crew in enumerate(plan.crews):
            if crew.beat not in beats:
                raise NoBeat(at)
        if name not in self._plans and len(self._plans) == _MOST_PLANS:
            raise TooMany("plans", _MOST_PLANS)
        self._plans[name] = plan

    def drop(self, name):
        """Takes a plan out."""
        if name not in self._plans:
            raise UnknownName(name)
        self._plans.pop(name)

    def copied(self):
        """An equal book that changes apart from this one."""
        twin = Book(self.house)
        twin._beats = dict(self._beats)
        twin._plans = dict(self._plans)
        return twin

    def __getitem__(self, at):
        if at not in self._plans:
            raise UnknownName(at)
        return self._plans[at]

    def __setitem__(self, at, worth):
        self.set_plan(at, worth)

    def __len__(self):
        return len(self._plans)

    def __iter__(self):
        return iter(self._plans)

    def __contains__(self, x):
        return x in self._plans

    def __eq__(self, other):
        # Dicts are equal in any order, so the lists of the names are compared, too.
        return (isinstance(other, Book) and self.house == other.house
                and list(self._beats) == list(other._beats) and self._beats == other._beats
                and list(self._plans) == list(other._plans) and self._plans == other._plans)
