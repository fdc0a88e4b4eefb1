"""Plain and slow answers that the tests hold the program against; houses and watches by chance."""

import itertools
import random
from fractions import Fraction

from watchbeats.houses import House
from watchbeats.ratio import Ratio
from watchbeats.watches import Watch

NAMES = ("east", "west", "north", "south")


def fraction(number):
    """The value of a whole number or a Ratio as a Fraction."""
    return Fraction(number.top, number.under) if isinstance(number, Ratio) else Fraction(number)


def drawn_house(chance, hours, gates, most=9):
    return House(hours, [(NAMES[gate], chance.randint(0, most)) for gate in range(gates)])


def drawn_watch(chance, house, most=3):
    return Watch(house, [[chance.randint(0, most) for _ in range(house.hours)] for _ in house.names])


def all_cells(house):
    return [(gate, hour) for gate in range(len(house.names)) for hour in range(house.hours)]


def all_spreads(cells, tries):
    """All spreads with at most so many tries on these cells, in ascending order."""
    told = []
    for many in range(tries + 1):
        for chosen in itertools.combinations(cells, many):
            for parts in itertools.product(range(1, tries + 1), repeat=many):
                if sum(parts) <= tries:
                    told.append(tuple((gate, hour, x) for (gate, hour), x in zip(chosen, parts)))
    return sorted(told)


def all_pasts(watches, looks):
    """All pasts with at most so many looks that some watch fits, in ascending order."""
    told = set()
    for many in range(looks + 1):
        for chosen in itertools.combinations(all_cells(watches[0].house), many):
            for watch in watches:
                told.add(tuple((gate, hour, watch.rows[gate][hour]) for gate, hour in chosen))
    return sorted(told)


def is_fit(watch, past):
    rows = watch.rows
    return all(rows[gate][hour] == strength for gate, hour, strength in past)


def lost(watch, spread):
    rows = watch.rows
    return sum(watch.house.stakes[gate] for gate, hour, x in spread if x > rows[gate][hour])


def entry(watch, past, spread, bound):
    """The entry of a watch in a row, as point 31 tells it."""
    return fraction(bound) - lost(watch, spread) if is_fit(watch, past) else Fraction(0)


def open_cells(house, past):
    known = [(gate, hour) for gate, hour, _ in past]
    return [cell for cell in all_cells(house) if cell not in known]


def most_lost(watches, weights, past, tries):
    """The weights of the watches that fit a past, and the most that they lose by it; each spread is gone through."""
    house = watches[0].house
    fitting = [(watch.rows, weight) for watch, weight in zip(watches, weights) if is_fit(watch, past)]
    gains = {(gate, hour, x): house.stakes[gate] * sum(w for rows, w in fitting if rows[gate][hour] < x)
             for gate, hour in all_cells(house) for x in range(1, tries + 1)}
    most = max(sum(gains[triple] for triple in spread) for spread in all_spreads(open_cells(house, past), tries))
    return sum(weight for _, weight in fitting), most


def least_gap(watches, weights, bound, tries, past_list):
    """The least gap of all rows with these pasts."""
    least = None
    under = 1
    for weight in weights:
        under = under * fraction(weight).denominator
    whole = [int(fraction(weight) * under) for weight in weights]
    for past in past_list:
        fitting, most = most_lost(watches, whole, past, tries)
        gap = (fraction(bound) * fitting - most) / under
        least = gap if least is None or gap < least else least
    return least


def turns(watch):
    return [watch << by for by in range(watch.house.hours)]


def turned_row(house, past, spread, by):
    """A past and a spread turned by some hours."""
    hours = house.hours
    return (tuple(sorted((gate, (hour + by) % hours, seen) for gate, hour, seen in past)),
            tuple(sorted((gate, (hour + by) % hours, x) for gate, hour, x in spread)))


def chances(seed):
    return random.Random(seed)


def drawn_weights(chance, many, most=3):
    """Weights that add up to 1; some of them can be 0 or whole numbers."""
    parts = [chance.randint(0, most) for _ in range(many)]
    parts[chance.randrange(many)] += 1
    weights = [Ratio(part, sum(parts)) for part in parts]
    return [weight.top if weight.whole else weight for weight in weights]
