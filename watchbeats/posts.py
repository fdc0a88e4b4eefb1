"""Posts: guards at the gates of a house of one hour."""

from math import comb

from watchbeats.errors import BadNumber
from watchbeats.watches import Watch
from watchbeats.whole import check_number

_MOST_POSTED = 12
_MOST_COUNTED = 1000


def postings(house, guards):
    """Yields all watches with so many guards in all, in ascending order of their strengths."""
    if house.hours > 1:
        raise BadNumber("hours", house.hours)
    check_number("guards", guards, 0, _MOST_POSTED)
    for strengths in _shared_out(len(house), guards):
        yield Watch(house, [[strength] for strength in strengths])


def count_postings(gates, guards):
    """The number of ways to post so many guards at so many gates."""
    check_number("gates", gates, 1, _MOST_COUNTED)
    check_number("guards", guards, 0, _MOST_COUNTED)
    return comb(gates - 1 + guards, guards)


def _shared_out(gates, guards):
    """All lists of so many strengths that add up to the guards, in ascending order."""
    if gates == 1:
        return [[guards]]
    return [[first] + rest for first in range(guards + 1) for rest in _shared_out(gates - 1, guards - first)]
