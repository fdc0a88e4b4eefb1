"""Pasts: what looks have seen."""

from watchbeats.bits import bits_of, listed
from watchbeats.errors import BadPast, Contradiction, KnownCell, TooMany
from watchbeats.houses import is_cell
from watchbeats.watches import Watch
from watchbeats.whole import check_number

_MOST_LOOKS = 3


def total_looks(house, past):
    """The number of looks of a past on the house."""
    before = (-1, -1)
    for at, (gate, hour, strength) in enumerate(past):
        cell = (gate, hour)
        if not is_cell(house, cell) or strength < 0 or strength > Watch.MOST or cell <= before:
            raise BadPast(at)
        before = cell
    if len(past) > _MOST_LOOKS:
        raise TooMany("looks", _MOST_LOOKS)
    return len(past)


def fits(watch, past):
    """True if the watch has the strengths that were seen."""
    total_looks(watch.house, past)
    return all([watch[gate, hour] == strength for gate, hour, strength in past])


def left_of(family, past):
    """The ascending list of the indexes of the members that fit."""
    return [at for at, watch in enumerate(family) if fits(watch, past)]


def known_cells(past):
    """The tuple of the cells of a past."""
    return tuple([(gate, hour) for gate, hour, strength in past])


def join_pasts(house, one, two):
    """The past with the looks of both."""
    total_looks(house, one)
    total_looks(house, two)
    joined = []
    for gate, hour in house.cells():
        seen = [look for look in one + two if look[0] == gate and look[1] == hour]
        if len(seen) == 2 and seen[0] != seen[1]:
            raise Contradiction((gate, hour))
        joined.extend(seen[:1])
    if len(joined) > _MOST_LOOKS:
        raise TooMany("looks", _MOST_LOOKS)
    return tuple(joined)


def pasts(family, *, looks=0):
    """Yields all pasts with at most so many looks that some member fits, in ascending order."""
    check_looks(looks, _MOST_LOOKS)
    watches = list(family)
    yield from pasts_of(watches, looks)


def pasts_of(watches, looks):
    """Yields all pasts with at most so many looks that some watch of the list fits, in ascending order."""
    cells = list(watches[0].house.cells())
    begun = ()
    yield from _pasts_from(cells, 0, looks, begun, watches)


def check_looks(looks, most):
    """Raises BadNumber unless the looks are 0 to `most`."""
    check_number("looks", looks, 0, most)


def check_open(spread, past):
    """Raises KnownCell for the first cell of the spread that is a cell of the past."""
    known = known_cells(past)
    for gate, hour, tries in spread:
        if (gate, hour) in known:
            raise KnownCell((gate, hour))


def _pasts_from(cells, first, left, begun, watches):
    """Yields a past and all that go on from it at the cells from index `first` on; the watches are those that fit."""
    yield begun
    if left > 0:
        rest = left - 1
        for at in range(first, len(cells)):
            after = at + 1
            cell = cells[at]
            for strength in listed(bits_of([watch[cell] for watch in watches])):
                longer = begun + ((cell[0], cell[1], strength),)
                fitting = [watch for watch in watches if watch[cell] == strength]
                yield from _pasts_from(cells, after, rest, longer, fitting)
