"""Even lots, and lots that are told back by their differences."""

from watchbeats.differences import differences
from watchbeats.errors import BadNumber, WrongLength
from watchbeats.lots import Lot
from watchbeats.whole import divisors

_MOST_LISTED = 13
_MOST_COUNTS = 12
_MOST_PRIME = 359


def is_even(lot):
    """True if all differences but the first are equal."""
    counts = differences(lot)[1:]
    return all([count == counts[0] for count in counts])


def even_count(hours, size):
    """The differences that an even lot of this size must have, or None if they are not whole."""
    if hours < 1 or hours > Lot.MOST:
        raise BadNumber("hours", hours)
    if size < 0 or size > hours:
        raise BadNumber("size", size)
    if hours == 1:
        return 0
    if size * (size - 1) % (hours - 1) != 0:
        return None
    return size * (size - 1) // (hours - 1)


def even_lots(hours, size):
    """Yields all even lots of this size that contain 0, in ascending order."""
    if hours < 1 or hours > _MOST_LISTED:
        raise BadNumber("hours", hours)
    if size < 1 or size > hours:
        raise BadNumber("size", size)
    for lot in lots_from_zero(hours, size):
        if is_even(lot):
            yield lot


def squares(prime):
    """The lot of all squares but 0 modulo a prime that leaves 3 when divided by 4."""
    if prime < 3 or prime > _MOST_PRIME or prime % 4 != 3 or len(divisors(prime)) != 2:
        raise BadNumber("prime", prime)
    # A number and its negative have one square, so half of them give each square once.
    return Lot(prime, [x * x for x in range(1, (prime + 1) // 2)])


def told_back(counts):
    """Yields all lots with these differences that are their own least turn, in ascending order."""
    told = list(counts)
    if len(told) < 1 or len(told) > _MOST_COUNTS:
        raise WrongLength(len(told))
    for count in told:
        if count < 0:
            raise BadNumber("count", count)
    for lot in least_lots(len(told), told[0]):
        if differences(lot) == told:
            yield lot


def least_lots(hours, size):
    """All lots of this size that are their own least turn, in ascending order."""
    if size == 0:
        return [Lot(hours, [])]
    return [lot for lot in lots_from_zero(hours, size) if lot.least_turn() == lot]


def lots_from_zero(hours, size):
    """All lots of this size, at least 1, that contain 0, in ascending order."""
    return [Lot(hours, [0] + rest) for rest in _choices(1, hours, size - 1)]


def _choices(first, end, size):
    """All ascending lists of so many hours from `first` to below `end`, in ascending order."""
    if size == 0:
        return [[]]
    return [[hour] + rest for hour in range(first, end) for rest in _choices(hour + 1, end, size - 1)]
