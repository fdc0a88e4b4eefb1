"""Partners: the starts with which a lot meets each hour of the ring exactly once."""

from watchbeats.bits import bits_of
from watchbeats.errors import BadNumber, EmptyLot
from watchbeats.layings import coverings
from watchbeats.lots import Lot

_MOST_HOURS = 16


def starts_once(lot):
    """Yields all partners of a lot, in ascending order."""
    for starts in _partners(lot):
        yield Lot(lot.hours, starts)


def count_starts_once(lot):
    """The number of partners of a lot."""
    return len(_partners(lot))


def _partners(lot):
    """The ascending lists of the members of all partners."""
    hours = lot.hours
    if hours > _MOST_HOURS:
        raise BadNumber("hours", hours)
    if len(lot) == 0:
        raise EmptyLot()
    pieces = [bits_of((lot << start).members) for start in range(hours)]
    return coverings(bits_of(list(range(hours))), pieces)
