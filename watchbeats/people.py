"""People: who walks which guard of a plan."""

from watchbeats.errors import OtherHours, TooMany
from watchbeats.houses import check_new_name

_MOST_GUARDS = 24
_MOST_PEOPLE = 12


class Manning:
    """Pairs of guards and people, as many as possible, and the guards and people that show it."""

    def __init__(self, pairs, short, able):
        self.pairs = pairs
        self.short = short
        self.able = able

    @property
    def missing(self):
        """The number of guards without a pair."""
        return len(self.short) - len(self.able)


def man(plan, people):
    """The Manning of a plan by a list of people, each with a name and a lot of hours."""
    _check(plan, people)
    guards = [(at, start) for at, crew in enumerate(plan.crews) for start in crew.starts]
    walkers = [_walkers_of(plan.crews[at].working(start), people) for at, start in guards]
    walked = _walked(walkers, len(people))
    short, able = _shown(walkers, walked)
    pairs = [(at, start, people[walked.index(guard)][0])
             for guard, (at, start) in enumerate(guards) if guard in walked]
    return Manning(pairs, [guards[guard] for guard in short], [people[person][0] for person in able])


def _check(plan, people):
    if plan.guards > _MOST_GUARDS:
        raise TooMany("guards", _MOST_GUARDS)
    if len(people) > _MOST_PEOPLE:
        raise TooMany("people", _MOST_PEOPLE)
    names = []
    for name, lot in people:
        check_new_name(name, names)
        if lot.hours != plan.house.hours:
            raise OtherHours()
        names.append(name)


def _walkers_of(working, people):
    """The indexes of the people whose lots hold all these hours."""
    return [person for person, (name, lot) in enumerate(people) if (working & lot) == working]


def _walked(walkers, many):
    """For each person the index of the guard to walk, or None; as many guards as possible are walked."""
    walked = [None] * many
    for guard in range(len(walkers)):
        _find_walker(guard, walkers, walked, [False] * many)
    return walked


def _find_walker(guard, walkers, walked, asked):
    """True if someone who was not asked yet now walks the guard; others may change to other guards for it."""
    for person in walkers[guard]:
        if not asked[person]:
            asked[person] = True
            if walked[person] is None or _find_walker(walked[person], walkers, walked, asked):
                walked[person] = guard
                return True
    return False


def _shown(walkers, walked):
    """The guards that lack people together, and the people who are able to walk one of them.

    They are all whom a guard without a walker could ask, and whom these could ask to change; each of the people walks
    one of the guards, because otherwise one guard more would be walked.
    """
    short = [guard not in walked for guard in range(len(walkers))]
    able = [False] * len(walked)
    waiting = [guard for guard in range(len(walkers)) if short[guard]]
    while waiting:
        guard = waiting.pop()
        for person in walkers[guard]:
            if not able[person]:
                able[person] = True
                short[walked[person]] = True
                waiting.append(walked[person])
    return ([guard for guard, is_short in enumerate(short) if is_short],
            [person for person, is_able in enumerate(able) if is_able])
