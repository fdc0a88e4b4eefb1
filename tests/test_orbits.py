"""Point 38: tables of watches that are turned by chance."""

from tests.brute import (all_pasts, all_spreads, chances, drawn_house, drawn_watch, entry, fraction, least_gap,
                         open_cells, turned_row, turns)
from tests.checks import HUGE, Case
from watchbeats.errors import BadNumber, OtherHouse, TooMany
from watchbeats.families import Family
from watchbeats.houses import House
from watchbeats.orbits import TurnTable, close_turns
from watchbeats.ratio import Ratio
from watchbeats.tables import close_table
from watchbeats.turning import turned_bound
from watchbeats.watches import Watch

RING = House(3, [("a", 6)])
ONE = Watch(RING, [[1, 0, 0]])
TWO = Watch(RING, [[1, 1, 0]])


def from_zero(watches, looks):
    """The pasts that are counted: empty ones and those with their first look in hour 0."""
    told = all_pasts([turn for watch in watches for turn in turns(watch)], looks)
    return [past for past in told if past == () or past[0][1] == 0]


class TurnTableTest(Case):

    def check(self, watches, bound, tries, looks):
        """Holds a table against all rows of the whole family, and its turned prices against every member."""
        table = close_turns(watches, bound, tries=tries, looks=looks)
        self.assertIs(table.__class__, TurnTable)
        self.assertEqual((table.watches, table.bound, table.tries, table.looks), (watches, bound, tries, looks))
        self.assertEqual((table.bound.__class__, table.value.__class__), (Ratio, Ratio))
        value = fraction(table.value)
        self.assertIs(table.held, value >= 0)
        house = watches[0].house
        members = [turn for watch in watches for turn in turns(watch)]
        self.assertEqual([weight.__class__ for weight in table.weights], [Ratio] * len(watches))
        self.assertTrue(all(weight >= 0 for weight in table.weights))
        self.assertEqual(sum(fraction(weight) for weight in table.weights), 1)
        weights = [weight.over(house.hours) for weight in table.weights for _ in range(house.hours)]
        told = all_pasts(members, looks)
        self.assertEqual(least_gap(members, weights, bound, tries, told), value)
        self.check_prices(table, told)
        for watch in watches:
            paid = {self.paid(table, turn) for turn in turns(watch)}
            self.assertEqual(len(paid), 1)
            self.assertLessEqual(min(paid), value)
        return table

    def check_prices(self, table, told):
        house = table.watches[0].house
        for price in table.prices:
            share, past, spread = price
            self.assertEqual((price.__class__, share.__class__), (tuple, Ratio))
            self.assertGreater(share, 0)
            self.assertIn(past, told)
            self.assertIn(spread, all_spreads(open_cells(house, past), table.tries))
        self.assertEqual(len({(past, spread) for _, past, spread in table.prices}), len(table.prices))
        self.assertEqual(sum(fraction(share) for share, _, _ in table.prices), 1)

    def paid(self, table, member):
        """The sum of share times entry over all turned rows for one member."""
        house = member.house
        total = 0
        for share, past, spread in table.prices:
            for by in range(house.hours):
                row = turned_row(house, past, spread, by)
                total += fraction(share) / house.hours * entry(member, *row, table.bound)
        return total

    def test_one_watch(self):
        for tries in range(4):
            for looks in range(3):
                bound = turned_bound(ONE, tries=tries, looks=looks).bound
                table = self.check([ONE], bound, tries, looks)
                self.assertEqual((table.value, table.weights), (0, [1]))
                self.assertIs(self.check([ONE], bound - Ratio(1, HUGE), tries, looks).held, False)

    def test_two_watches(self):
        table = self.check([ONE, TWO], 2, 1, 0)
        self.assertEqual((table.value, table.weights), (0, [0, 1]))
        self.assertIs(self.check([ONE, TWO], Ratio(19, 10), 1, 0).held, False)

    def test_drawn_watches(self):
        chance = chances(1)
        done = 0
        while done < 50:
            house = drawn_house(chance, chance.randint(1, 4), chance.randint(1, 2))
            watches = [drawn_watch(chance, house, 1) for _ in range(chance.randint(1, 4))]
            looks = chance.randint(0, 2)
            if len(from_zero(watches, looks)) <= 100:
                done += 1
                self.check(watches, Ratio(chance.randint(-10, 80), 5), chance.randint(0, 3), looks)

    def test_the_value_is_that_of_the_whole_family(self):
        chance = chances(2)
        for _ in range(40):
            house = drawn_house(chance, chance.randint(1, 4), 1)
            watches = [drawn_watch(chance, house, 2) for _ in range(chance.randint(1, 8 // house.hours))][:4]
            family = Family(house, [turn for watch in watches for turn in turns(watch)])
            bound, tries = Ratio(chance.randint(-10, 80), 5), chance.randint(0, 3)
            for looks in range(3):
                if len(all_pasts(list(family), looks)) <= 100:
                    value = close_table(family, bound, tries=tries, looks=looks).value
                    self.assertEqual(close_turns(watches, bound, tries=tries, looks=looks).value, value)

    def test_equal_watches_and_turns(self):
        for looks in range(3):
            value = close_turns([ONE], 5, looks=looks).value
            self.assertEqual(self.check([ONE, ONE << 1, ONE], 5, 1, looks).value, value)
        even = Watch(House(4, [("a", 6)]), [[1, 0, 1, 0]])
        self.check([even, Watch(even.house, [[1, 1, 1, 1]])], Ratio(5, 2), 2, 2)

    def test_rings_of_one_hour(self):
        house = House(1, [("a", 6), ("b", 4)])
        watches = [Watch(house, [[1], [0]]), Watch(house, [[0], [1]])]
        self.assertEqual(self.check(watches, Ratio(12, 5), 1, 0).value, 0)
        self.assertIs(self.check(watches, Ratio(12, 5), 1, 1).held, False)
        self.check(watches, 6, 3, 2)

    def test_largest(self):
        chance = chances(3)
        ring = House(16, [("a", 7)])
        watches = [Watch(ring, [[chance.randint(0, 2) for _ in range(16)]]) for _ in range(4)]
        for bound, tries, looks in ((5, 3, 0), (Ratio(17, 3), 3, 1)):
            self.check(watches, bound, tries, looks)
        two = [Watch(ring, [[int(hour < at) for hour in range(16)]]) for at in (2, 6, 11, 14)]
        self.assertLessEqual(len(from_zero(two, 2)), 100)
        self.check(two, Ratio(70, 13), 2, 2)
        square = House(4, [("a", 7), ("b", 5), ("c", 3), ("d", 2)])
        self.check([drawn_watch(chance, square, 3) for _ in range(4)], 9, 3, 1)

    def test_numbers_with_60_digits(self):
        for bound in (HUGE, -HUGE, Ratio(1, HUGE), Ratio(4 * (HUGE // 10) - 1, HUGE // 10)):
            for looks in range(3):
                self.check([ONE, TWO], bound, 3, looks)

    def test_errors_in_order(self):
        wide = Watch.empty(House(17, [("a", 6)]))
        other = Watch.empty(House(17, [("a", 5)]))
        bad = {"tries": 4, "looks": 3}
        self.raises(BadNumber, {"name": "watches", "value": 0}, close_turns, [], 1, **bad)
        self.raises(TooMany, {"name": "watches", "most": 4}, close_turns, [wide] * 4 + [other], 1, **bad)
        self.raises(OtherHouse, {}, close_turns, [wide, wide, other], 1, **bad)
        for tries in (-1, 4, HUGE):
            told = {"name": "tries", "value": tries}
            self.raises(BadNumber, told, close_turns, [wide], 1, tries=tries, looks=3)
        for looks in (-1, 3, HUGE):
            told = {"name": "looks", "value": looks}
            self.raises(BadNumber, told, close_turns, [wide], 1, tries=3, looks=looks)
        self.raises(TooMany, {"name": "cells", "most": 16}, close_turns, [wide] * 4, 1)
        self.assertEqual(close_turns([ONE] * 4, 4).value, 0)

    def test_pasts(self):
        most = {"name": "pasts", "most": 100}
        ring = House(10, [("a", 6)])
        exact = [Watch(ring, [[0, 3, 2, 0, 3, 0, 0, 0, 1, 1]]), Watch(ring, [[1, 0, 3, 0, 0, 3, 0, 2, 0, 2]])]
        more = [Watch(ring, [[1, 1, 3, 0, 1, 0, 0, 0, 1, 0]]), Watch(ring, [[1, 1, 3, 2, 2, 0, 0, 2, 0, 1]])]
        self.assertEqual([len(from_zero(exact, 2)), len(from_zero(more, 2))], [100, 101])
        self.check(exact, Ratio(9, 2), 1, 2)
        self.raises(TooMany, most, close_turns, more, Ratio(9, 2), looks=2)
        self.assertEqual(close_turns(more, HUGE, looks=1).looks, 1)
        # Many strengths and members are no reason by themselves.
        square = House(4, [("a", 1), ("b", 1), ("c", 1), ("d", 1)])
        watches = [Watch(square, [[4 * at + hour for hour in range(4)] for _ in square.names]) for at in range(4)]
        self.assertEqual(len(from_zero(watches, 1)), 65)
        self.assertIs(close_turns(watches, 1, tries=3, looks=1).held, True)
        self.raises(TooMany, most, close_turns, watches, 1, looks=2)

    def test_lists(self):
        watches = [ONE, TWO]
        table = close_turns(watches, 4)
        watches.pop()
        self.assertEqual((table.watches, table.tries, table.looks), ([ONE, TWO], 1, 0))
