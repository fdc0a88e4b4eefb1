"""Settling: the least bound of a form that a family holds, and the most looks that it bears."""

from watchbeats.closing import close
from watchbeats.ratio import Ratio
from watchbeats.tables import MOST_LOOKS, close_table, stand_of
from watchbeats.whole import check_number

_MOST_PARTS = 12


def settle(family, parts, *, tries=1, looks=0):
    """The least whole k of at least 0 for which the bound k / parts is held."""
    check_number("parts", parts, 1, _MOST_PARTS)
    stand = stand_of(family, tries, looks)
    least = 0
    # No spread loses more than this, so this bound is always held.
    most = stand.top_loss * parts
    while least < most:
        middle = (least + most) // 2
        if close(stand, Ratio(middle, parts)).value >= 0:
            most = middle
        else:
            least = middle + 1
    return least


def borne(family, bound, *, tries=1):
    """The greatest number of looks with which the bound is held, or None."""
    for looks in range(MOST_LOOKS, -1, -1):
        if close_table(family, bound, tries=tries, looks=looks).held:
            return looks
    return None
