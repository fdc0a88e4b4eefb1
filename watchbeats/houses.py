"""Houses: gates with stakes, and a ring of hours."""

from watchbeats.errors import BadName, BadNumber, RepeatedName, TooMany, UnknownName

_LETTERS = "abcdefghijklmnopqrstuvwxyz"
_LONGEST_NAME = 8


class House:
    """A ring of hours and 1 to 4 gates, each with a name and a stake; it does not change."""

    MOST_HOURS = 24
    MOST_GATES = 4
    MOST_CELLS = 48
    MOST_STAKE = 60

    def __init__(self, hours, gates):
        if hours < 1 or hours > House.MOST_HOURS:
            raise BadNumber("hours", hours)
        if len(gates) == 0:
            raise BadNumber("gates", 0)
        if len(gates) > House.MOST_GATES:
            raise TooMany("gates", House.MOST_GATES)
        names = []
        stakes = []
        for name, stake in gates:
            check_new_name(name, names)
            if stake < 0 or stake > House.MOST_STAKE:
                raise BadNumber("stake", stake)
            names.append(name)
            stakes.append(stake)
        if hours * len(gates) > House.MOST_CELLS:
            raise TooMany("cells", House.MOST_CELLS)
        self.hours = hours
        self.names = tuple(names)
        self.stakes = tuple(stakes)

    def gate(self, name):
        """The index of the gate with this name."""
        if name not in self.names:
            raise UnknownName(name)
        return self.names.index(name)

    def cells(self):
        """Yields all cells in ascending order."""
        for gate in range(len(self.names)):
            for hour in range(self.hours):
                yield (gate, hour)

    def __len__(self):
        return len(self.names)

    def __eq__(self, other):
        return (isinstance(other, House) and self.hours == other.hours
                and self.names == other.names and self.stakes == other.stakes)


def check_name(name):
    """Raises BadName unless the name is 1 to 8 letters from a to z."""
    if len(name) < 1 or len(name) > _LONGEST_NAME:
        raise BadName(name)
    for letter in name:
        if letter not in _LETTERS:
            raise BadName(name)


def check_new_name(name, names):
    """Raises BadName, or RepeatedName if the name is one of the names."""
    check_name(name)
    if name in names:
        raise RepeatedName(name)


def is_gate(house, gate):
    """True if the number is the index of a gate of the house."""
    return gate >= 0 and gate < len(house)


def is_cell(house, cell):
    """True if the tuple is a cell of the house."""
    gate, hour = cell
    return is_gate(house, gate) and hour >= 0 and hour < house.hours
