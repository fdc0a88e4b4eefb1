"""Spreads: tries at cells."""

from math import comb

from watchbeats.errors import BadNumber, BadSpread, NoPlace, TooMany
from watchbeats.houses import is_cell
from watchbeats.whole import check_number

_MOST_TRIES = 6


def total_tries(house, spread):
    """The number of all tries of a spread on the house."""
    total = 0
    before = (-1, -1)
    for at, (gate, hour, tries) in enumerate(spread):
        cell = (gate, hour)
        if not is_cell(house, cell) or tries < 1 or cell <= before:
            raise BadSpread(at)
        before = cell
        total = total + tries
    if total > _MOST_TRIES:
        raise TooMany("tries", _MOST_TRIES)
    return total


def spreads(house, *, tries=1, known=()):
    """Yields all spreads with at most so many tries and without the known cells, in ascending order."""
    cells = open_cells_of(house, tries, known)
    begun = ()
    yield from _spreads_from(cells, 0, tries, begun)


def count_spreads(cells, *, tries=1):
    """The number of the spreads with at most so many tries on so many cells."""
    if cells < 0:
        raise BadNumber("cells", cells)
    check_tries(tries, _MOST_TRIES)
    # One place more than the cells takes the tries that are not made.
    return comb(cells + tries, tries)


def open_cells_of(house, tries, known):
    """The cells that are not known, in ascending order, with the checks of `spreads`."""
    check_tries(tries, _MOST_TRIES)
    for cell in known:
        if not is_cell(house, cell):
            raise NoPlace()
    return [cell for cell in house.cells() if cell not in known]


def check_tries(tries, most):
    """Raises BadNumber unless the tries are 0 to `most`."""
    check_number("tries", tries, 0, most)


def _spreads_from(cells, first, left, begun):
    """Yields a spread and all that go on from it at the cells from index `first` on."""
    yield begun
    if left > 0:
        for at in range(first, len(cells)):
            after = at + 1
            for tries in range(1, left + 1):
                rest = left - tries
                longer = begun + ((cells[at][0], cells[at][1], tries),)
                yield from _spreads_from(cells, after, rest, longer)
