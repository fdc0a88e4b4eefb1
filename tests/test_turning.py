"""Points 36 and 37: watches that are turned by chance."""

from math import gcd

from tests.brute import (all_pasts, all_spreads, chances, drawn_house, drawn_watch, fraction, is_fit, lost, most_lost,
                         open_cells, turns)
from tests.checks import HUGE, Case
from watchbeats.errors import BadNumber, TooMany
from watchbeats.families import Family
from watchbeats.houses import House
from watchbeats.losses import loss
from watchbeats.ratio import Ratio
from watchbeats.tables import close_table
from watchbeats.turning import Turned, turned_bound
from watchbeats.watches import Watch

RING = House(3, [("a", 6)])
WATCH = Watch(RING, [[1, 0, 0]])


def bound_of(watch, tries, looks):
    return turned_bound(watch, tries=tries, looks=looks).bound


def drawn(chance, most=2, hours=6):
    return drawn_watch(chance, drawn_house(chance, chance.randint(1, hours), chance.randint(1, 2)), most)


class TurnedTest(Case):

    def check(self, watch, tries, looks, whole=True):
        """Holds a Turned against all pasts and spreads, or only against what it shows itself."""
        told = turned_bound(watch, tries=tries, looks=looks)
        self.assertIs(told.__class__, Turned)
        self.assertIs(told.bound.__class__, Ratio)
        family = turns(watch)
        hours = range(watch.house.hours)
        self.assertLessEqual(len(told.past), looks)
        self.assertEqual(told.fitting, [by for by in hours if is_fit(family[by], told.past)])
        self.assertIs(told.fitting.__class__, list)
        mean = Ratio(sum(loss(family[by], told.spread) for by in told.fitting), len(told.fitting))
        self.assertEqual(told.bound, mean)
        self.assertLessEqual(sum(x for _, _, x in told.spread), tries)
        self.assertTrue(all((gate, hour) in open_cells(watch.house, told.past) for gate, hour, _ in told.spread))
        if whole:
            means = []
            for past in all_pasts(family, looks):
                fitting, most = most_lost(family, [1] * len(family), past, tries)
                means.append(Ratio(most, fitting))
            self.assertEqual(fraction(told.bound), max(fraction(mean) for mean in means))
        return told.bound

    def test_example(self):
        self.assertEqual([str(turned_bound(WATCH).bound), str(turned_bound(WATCH, looks=1).bound)], ["4", "6"])
        self.assertEqual([self.check(WATCH, tries, looks) for tries in range(4) for looks in range(3)],
                         [0, 0, 0, 4, 6, 6, 8, 12, 12, 12, 12, 12])

    def test_drawn_watches(self):
        chance = chances(1)
        for _ in range(60):
            self.check(drawn(chance), chance.randint(0, 3), chance.randint(0, 2))

    def test_one_hour(self):
        watch = Watch(House(1, [("a", 5), ("b", 7)]), [[1], [0]])
        told = turned_bound(watch, tries=3, looks=1)
        self.assertEqual((told.bound, told.fitting), (12, [0]))
        self.assertEqual([self.check(watch, tries, looks) for tries in range(4) for looks in (0, 2)],
                         [0, 0, 7, 7, 7, 7, 12, 12])
        self.assertEqual(self.check(Watch(House(1, [("a", 5)]), [[0]]), 3, 2), 5)

    def test_nothing_to_lose(self):
        self.assertEqual(self.check(Watch(House(4, [("a", 0)]), [[0, 1, 2, 0]]), 3, 2), 0)
        self.assertEqual(self.check(Watch(House(4, [("a", 9)]), [[3, 4, 5, 96]]), 3, 2), 0)
        told = turned_bound(Watch(House(4, [("a", 9)]), [[0] * 4]), tries=0)
        self.assertEqual((told.bound, told.past, told.spread, told.fitting), (0, (), (), [0, 1, 2, 3]))

    def test_largest_rings(self):
        chance = chances(2)
        wide = drawn_watch(chance, House(24, [("a", 7), ("b", 5)]), 2)
        self.check(wide, 3, 1, whole=False)
        self.check(wide, 1, 1)
        self.check(wide, 2, 0)
        long = Watch(House(16, [("a", 7)]), [[chance.randint(0, 3) for _ in range(16)]])
        self.check(long, 3, 2)
        self.check(Watch(House(16, [("a", 7)]), [list(range(16))]), 1, 2)
        square = drawn_watch(chance, House(4, [("a", 7), ("b", 5), ("c", 3), ("d", 2)]), 2)
        self.check(square, 3, 2)

    def test_errors_in_order(self):
        wide = Watch.empty(House(17, [("a", 6)]))
        for tries in (-1, 4, 6, HUGE):
            told = {"name": "tries", "value": tries}
            self.raises(BadNumber, told, turned_bound, wide, tries=tries, looks=3)
        for looks in (-1, 3, HUGE):
            told = {"name": "looks", "value": looks}
            self.raises(BadNumber, told, turned_bound, wide, tries=3, looks=looks)
        self.raises(TooMany, {"name": "cells", "most": 16}, turned_bound, wide, looks=2)
        self.raises(TooMany, {"name": "cells", "most": 16}, turned_bound,
                    Watch.empty(House(6, [("a", 1), ("b", 1), ("c", 1)])), tries=0, looks=2)
        self.assertEqual([turned_bound(wide, looks=looks).bound for looks in (0, 1)], [6, 6])
        self.assertEqual(turned_bound(Watch.empty(House(16, [("a", 6)])), looks=2).bound, 6)


class PromiseTest(Case):
    """Point 37."""

    def test_tables_of_turns(self):
        chance = chances(3)
        done = 0
        while done < 25:
            watch = drawn(chance, most=1)
            tries, looks = chance.randint(0, 3), chance.randint(0, 2)
            family = Family.turns(watch)
            if len(all_pasts(list(family), looks)) <= 100:
                done += 1
                bound = bound_of(watch, tries, looks)
                table = close_table(family, bound, tries=tries, looks=looks)
                self.assertEqual((table.held, table.value), (True, 0))
                under = bound - Ratio(1, 10 ** 50)
                self.assertIs(close_table(family, under, tries=tries, looks=looks).held, False)
                for past in all_pasts(list(family), looks):
                    left = [member for member in family if is_fit(member, past)]
                    for spread in all_spreads(open_cells(watch.house, past), min(tries, 2)):
                        mean = Ratio(sum(lost(member, spread) for member in left), len(left))
                        self.assertLessEqual(mean, bound)

    def test_turned_mirrored_and_stretched(self):
        chance = chances(4)
        for _ in range(25):
            watch = drawn(chance)
            hours = watch.house.hours
            tries, looks = chance.randint(1, 3), chance.randint(0, 2)
            bound = bound_of(watch, tries, looks)
            others = [watch << 1, watch << -HUGE, -watch] + [watch * t for t in range(2, 7) if gcd(t, hours) == 1]
            self.assertTrue(all(bound_of(other, tries, looks) == bound for other in others))

    def test_more_tries_or_looks(self):
        chance = chances(5)
        for _ in range(15):
            watch = drawn(chance)
            told = [[bound_of(watch, tries, looks) for tries in range(4)] for looks in range(3)]
            for row in told:
                self.assertTrue(all(one <= two for one, two in zip(row, row[1:])))
            for one, two in zip(told, told[1:]):
                self.assertTrue(all(low <= high for low, high in zip(one, two)))

    def test_stakes_times_a_number(self):
        chance = chances(6)
        for _ in range(15):
            watch = drawn(chance)
            house = watch.house
            more = House(house.hours, [(name, 5 * stake) for name, stake in zip(house.names, house.stakes)])
            for looks in range(3):
                self.assertEqual(bound_of(Watch(more, watch.rows), 2, looks), 5 * bound_of(watch, 2, looks))

    def test_a_watch_that_covers_another(self):
        chance = chances(7)
        for _ in range(25):
            watch = drawn(chance)
            more = watch + drawn_watch(chance, watch.house, 1)
            for tries in range(4):
                self.assertLessEqual(bound_of(more, tries, 0), bound_of(watch, tries, 0))
