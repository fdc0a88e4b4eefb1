"""Turning: the least bound of a watch that is turned round the ring by chance."""

from watchbeats.pasts import check_looks, fits, pasts_of
from watchbeats.ratio import Ratio
from watchbeats.sights import Sight
from watchbeats.spreads import check_tries
from watchbeats.tables import MOST_LOOKS, MOST_TRIES, check_cells


class Turned:
    """The greatest mean loss over the turns that fit a past, and where it stands."""

    def __init__(self, bound, past, spread, fitting):
        self.bound = bound
        self.past = past
        self.spread = spread
        self.fitting = fitting


def turned_bound(watch, *, tries=1, looks=0):
    """The Turned of a watch."""
    check_tries(tries, MOST_TRIES)
    check_looks(looks, MOST_LOOKS)
    if looks == MOST_LOOKS:
        check_cells(watch.house)
    turns = all_turns(watch)
    # Who stays at home gains nothing.
    bound = Ratio(0)
    place = ((), ())
    for past in pasts_from_zero(turns, looks):
        sight = Sight([turns], past, tries)
        mean = Ratio(sight.most_lost([1]), sight.fit_counts[0])
        if mean > bound:
            bound = mean
            place = (past, sight.worst_spread([1]))
    past, spread = place
    return Turned(bound, past, spread, [by for by, turn in enumerate(turns) if fits(turn, past)])


def all_turns(watch):
    """The list of the watch turned by each hour of its ring."""
    return [watch << by for by in range(watch.house.hours)]


def pasts_from_zero(watches, looks):
    """The pasts that some of the watches fits and that are empty or have their first look in hour 0.

    Where all turns of each watch are among the watches, each other past is one of these turned.
    """
    return [past for past in pasts_of(watches, looks) if past == () or past[0][1] == 0]
