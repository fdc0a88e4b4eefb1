"""Points 31 to 34: tables, closed from both sides."""

from fractions import Fraction

from tests.brute import (all_cells, all_pasts, all_spreads, chances, drawn_house, drawn_watch, entry, fraction, is_fit,
                         least_gap, lost, open_cells)
from tests.checks import HUGE, Case
from watchbeats.errors import BadNumber, BadPast, BadSpread, KnownCell, NoPlace, TooMany
from watchbeats.families import Family
from watchbeats.houses import House
from watchbeats.pasts import pasts
from watchbeats.ratio import Ratio
from watchbeats.tables import Table, close_table
from watchbeats.watches import Watch

RING = House(3, [("a", 6)])
TURNS = Family.turns(Watch(RING, [[1, 0, 0]]))
LONG = House(17, [("a", 6)])


def family_of_rows(house, *rows):
    """A family on a house with one gate."""
    return Family(house, [Watch(house, [row]) for row in rows])


def drawn_family(chance, hours, gates, most_members=8, most=2):
    house = drawn_house(chance, hours, gates)
    return Family(house, [drawn_watch(chance, house, most) for _ in range(chance.randint(1, most_members))])


def steps_family(sevens):
    """8 watches on 16 cells, with 7 strengths at so many cells and 6 at the others."""
    house = House(4, [("a", 9), ("b", 7), ("c", 5), ("d", 3)])
    rows = [[min(member, 6 if at < sevens else 5) for at in range(16)] for member in range(8)]
    # The strengths are dealt out differently at each cell, so that no member is the weakest one everywhere.
    rows = [[rows[(3 * at + member) % 8][at] for at in range(16)] for member in range(8)]
    return Family(house, [Watch(house, [row[at:at + 4] for at in range(0, 16, 4)]) for row in rows])


class TableTest(Case):

    def check(self, family, bound, tries, looks):
        """Holds a table against all that can be seen and every spread, and its prices against every member."""
        table = close_table(family, bound, tries=tries, looks=looks)
        self.assertIs(table.__class__, Table)
        self.assertEqual((table.family, table.bound, table.tries, table.looks), (family, bound, tries, looks))
        self.assertEqual((table.bound.__class__, table.value.__class__), (Ratio, Ratio))
        value = fraction(table.value)
        told = all_pasts(list(family), looks)
        self.check_weights(table.weights, len(family))
        self.assertEqual(least_gap(list(family), table.weights, bound, tries, told), value)
        self.check_prices(table.prices, told, family.house, tries)
        for at, watch in enumerate(family):
            paid = sum(fraction(share) * entry(watch, past, spread, bound) for share, past, spread in table.prices)
            self.assertLessEqual(paid, value)
            self.assertEqual(fraction(table.gain_on(at)), -paid)
            self.assertIs(table.gain_on(at).__class__, Ratio)
        self.assertIs(table.held, value >= 0)
        past, spread = table.narrowest()
        self.assertIn(past, told)
        self.assertIn(spread, all_spreads(open_cells(family.house, past), tries))
        self.assertEqual(table.gap(past, spread), table.value)
        return table

    def check_weights(self, weights, many):
        self.assertIs(weights.__class__, list)
        self.assertEqual([weight.__class__ for weight in weights], [Ratio] * many)
        self.assertTrue(all(weight >= 0 for weight in weights))
        self.assertEqual(sum(fraction(weight) for weight in weights), 1)

    def check_prices(self, prices, told, house, tries):
        self.assertIs(prices.__class__, list)
        for price in prices:
            share, past, spread = price
            self.assertEqual((price.__class__, share.__class__), (tuple, Ratio))
            self.assertGreater(share, 0)
            self.assertIn(past, told)
            self.assertIn(spread, all_spreads(open_cells(house, past), tries))
        self.assertEqual(len({(past, spread) for _, past, spread in prices}), len(prices))
        self.assertEqual(sum(fraction(share) for share, _, _ in prices), 1)

    def test_examples(self):
        self.assertEqual([str(close_table(TURNS, 4).value), str(close_table(TURNS, 5, looks=1).value)], ["0", "-1/3"])
        table = self.check(TURNS, 4, 1, 0)
        self.assertEqual((table.held, table.weights), (True, [Ratio(1, 3)] * 3))
        self.assertIs(self.check(TURNS, 5, 1, 1).held, False)

    def test_bounds_just_held_and_just_not_held(self):
        for looks, bound in ((0, 4), (1, 6), (2, 6)):
            self.assertEqual(self.check(TURNS, bound, 1, looks).value, 0)
            self.assertIs(close_table(TURNS, bound, looks=looks).held, True)
            self.assertIs(self.check(TURNS, Ratio(bound * HUGE - 1, HUGE), 1, looks).held, False)
            self.assertIs(self.check(TURNS, Ratio(bound * HUGE // 10 + 1, HUGE // 10), 1, looks).held, True)

    def test_drawn_families(self):
        chance = chances(1)
        for _ in range(120):
            hours = chance.randint(1, 4)
            family = drawn_family(chance, hours, chance.randint(1, 4 if hours == 1 else 2))
            looks = chance.randint(0, 2)
            if len(all_pasts(list(family), looks)) <= 100:
                bound = Ratio(chance.randint(-20, 120), chance.randint(1, 9))
                self.check(family, bound, chance.randint(0, 3), looks)

    def test_one_member(self):
        family = family_of_rows(RING, [1, 0, 2])
        for bound, value in ((6, 0), (7, 1), (5, -1), (Ratio(1, 2), Ratio(-11, 2))):
            table = self.check(family, bound, 1, 0)
            self.assertEqual((table.value, table.weights), (value, [1]))
        self.assertEqual(self.check(family, 12, 3, 2).value, 0)

    def test_no_tries(self):
        chance = chances(2)
        for _ in range(10):
            family = drawn_family(chance, 2, 2)
            self.assertEqual(self.check(family, Ratio(5, 3), 0, 0).value, Ratio(5, 3))
            self.assertIs(self.check(family, Ratio(5, 3), 0, 1).held, True)
            self.assertEqual(self.check(family, 0, 0, 2).value, 0)
            self.assertEqual(self.check(family, -2, 0, 1).value, -2)

    def test_members_that_are_not_drawn(self):
        # The last one guards more than each of the others, so nothing else need be drawn.
        family = family_of_rows(RING, [1, 0, 0], [0, 0, 0], [3, 3, 3])
        for looks in range(3):
            table = self.check(family, 0, 3, looks)
            self.assertIs(table.held, True)

    def test_numbers_with_60_digits(self):
        family = family_of_rows(House(2, [("a", 60)]), [1, 0], [0, 1], [2, 2], [0, 0])
        for bound in (HUGE, -HUGE, Ratio(HUGE, HUGE - 1), Ratio(1, HUGE), Ratio(60 * HUGE // 100, HUGE // 100 - 1)):
            for looks in range(3):
                self.check(family, bound, 3, looks)

    def test_largest_family(self):
        family = steps_family(3)
        self.assertEqual(len(list(pasts(family, looks=1))), 100)
        for bound in (8, Ratio(41, 3), 24):
            self.check(family, bound, 3, 1)
        self.check(family, Ratio(50, 7), 3, 0)

    def test_largest_number_of_looks(self):
        chance = chances(3)
        for hours, gates, most in ((13, 1, 0), (7, 1, 1), (3, 2, 1), (5, 1, 2)):
            house = drawn_house(chance, hours, gates)
            watches = [drawn_watch(chance, house, most) for _ in range(8)]
            family = Family(house, watches)
            if len(all_pasts(watches, 2)) > 100:
                family = Family(house, watches[:3])
            for bound in (5, Ratio(27, 2)):
                self.check(family, bound, 3, 2)

    def test_what_a_held_table_says(self):
        chance = chances(4)
        held = 0
        while held < 15:
            family = drawn_family(chance, 3, 1, most=1)
            table = close_table(family, chance.randint(1, 12), tries=2, looks=1)
            held += table.held
            for past in all_pasts(list(family), 1) if table.held else []:
                left = [(fraction(w), watch) for w, watch in zip(table.weights, family) if is_fit(watch, past)]
                seen = sum(w for w, _ in left)
                for spread in all_spreads(open_cells(family.house, past), 2) if seen > 0 else []:
                    mean = sum(w * lost(watch, spread) for w, watch in left) / seen
                    self.assertLessEqual(mean, fraction(table.bound))

    def test_what_a_table_that_is_not_held_says(self):
        chance = chances(5)
        beaten = 0
        while beaten < 15:
            family = drawn_family(chance, 3, 1, most=1)
            table = close_table(family, chance.randint(0, 9), tries=2, looks=1)
            beaten += not table.held
            for watch in list(family) if not table.held else []:
                gain = sum((fraction(share) * (lost(watch, spread) - fraction(table.bound))
                            for share, past, spread in table.prices if is_fit(watch, past)), Fraction(0))
                self.assertGreaterEqual(gain, -fraction(table.value))
                self.assertGreater(gain, 0)


class CompareTest(Case):

    def values(self, family, bounds, tries=1, looks=0):
        return [close_table(family, bound, tries=tries, looks=looks).value for bound in bounds]

    def test_the_value_is_at_most_the_bound_and_grows_with_it(self):
        chance = chances(6)
        bounds = [-3, 0, Ratio(7, 3), 4, Ratio(17, 2), 20]
        for _ in range(12):
            family = drawn_family(chance, 3, 1)
            for looks in range(3):
                values = self.values(family, bounds, chance.randint(0, 3), looks)
                self.assertTrue(all(value <= bound for value, bound in zip(values, bounds)))
                self.assertTrue(all(one <= two for one, two in zip(values, values[1:])))
            values = self.values(family, bounds, 2, 0)
            self.assertTrue(all(two - one == bound - before for one, two, before, bound
                                in zip(values, values[1:], bounds, bounds[1:])))

    def test_more_tries_or_looks_never_have_a_greater_value(self):
        chance = chances(7)
        for _ in range(12):
            family = drawn_family(chance, 3, 1)
            bound = Ratio(chance.randint(-5, 60), 4)
            told = [[close_table(family, bound, tries=tries, looks=looks).value for tries in range(4)]
                    for looks in range(3)]
            for looks in range(3):
                for tries in range(4):
                    self.assertTrue(tries == 0 or told[looks][tries] <= told[looks][tries - 1])
                    self.assertTrue(looks == 0 or told[looks][tries] <= told[looks - 1][tries])

    def test_bounds_always_and_never_held(self):
        chance = chances(8)
        for _ in range(15):
            family = drawn_family(chance, 2, 2)
            tries, looks = chance.randint(0, 3), chance.randint(0, 1)
            most = tries * max(family.house.stakes)
            self.assertIs(close_table(family, most, tries=tries, looks=looks).held, True)
            self.assertIs(close_table(family, Ratio(-1, HUGE), tries=tries, looks=looks).held, False)
            self.assertIs(close_table(family, 0, tries=0, looks=looks).held, True)

    def test_more_members(self):
        chance = chances(9)
        for _ in range(15):
            one = drawn_family(chance, 2, 1, most_members=4, most=1)
            two = Family(one.house, [drawn_watch(chance, one.house, 1) for _ in range(chance.randint(1, 4))])
            for looks in range(3):
                bound = Ratio(chance.randint(0, 40), 4)
                if close_table(one, bound, tries=2, looks=looks).held:
                    self.assertIs(close_table(one + two, bound, tries=2, looks=looks).held, True)

    def test_turned_families_and_equal_members(self):
        chance = chances(10)
        for _ in range(12):
            family = drawn_family(chance, 3, 1, most_members=7, most=1)
            again = family + Family(family.house, [family[chance.randrange(len(family))]])
            for looks in range(3):
                bound = Ratio(chance.randint(-5, 60), 4)
                value = close_table(family, bound, tries=2, looks=looks).value
                for other in (family << 1, family << -HUGE, again):
                    self.assertEqual(close_table(other, bound, tries=2, looks=looks).value, value)


class MethodsTest(Case):

    def test_gap_of_any_past_and_spread(self):
        chance = chances(11)
        for _ in range(6):
            family = drawn_family(chance, 3, 1, most=1)
            table = close_table(family, Ratio(7, 2), tries=1, looks=0)
            for past in all_pasts(list(family), 3) + [((0, 0, 96),), ((0, 1, 7), (0, 2, 0))]:
                for spread in all_spreads(open_cells(family.house, past), 6):
                    told = sum(fraction(w) * entry(watch, past, spread, table.bound)
                               for w, watch in zip(table.weights, family))
                    self.assertEqual(fraction(table.gap(past, spread)), told)
                    self.assertIs(table.gap(past, spread).__class__, Ratio)
        self.assertEqual(table.gap(((0, 0, 96),), ()), 0)

    def test_gap_errors_in_order(self):
        house = House(3, [("a", 1), ("b", 2)])
        table = close_table(Family(house, [Watch.empty(house)]), 1)
        bad = ((0, 3, 1),)
        self.raises(BadPast, {"index": 0}, table.gap, bad, bad)
        self.raises(BadPast, {"index": 1}, table.gap, ((0, 0, 0), (0, 0, 0)), ())
        four = tuple((0, hour, 0) for hour in range(3)) + ((1, 0, 0),)
        self.raises(TooMany, {"name": "looks", "most": 3}, table.gap, four, bad)
        self.raises(BadSpread, {"index": 0}, table.gap, ((0, 0, 0),), bad)
        self.raises(BadSpread, {"index": 1}, table.gap, ((0, 0, 0),), ((0, 0, 7), (1, 0, 0)))
        self.raises(TooMany, {"name": "tries", "most": 6}, table.gap, ((0, 0, 0),), ((0, 0, 7),))
        past = ((0, 1, 0), (0, 2, 5), (1, 0, 0))
        self.raises(KnownCell, {"cell": (0, 2)}, table.gap, past, ((0, 0, 1), (0, 2, 1), (1, 0, 1)))
        self.raises(KnownCell, {"cell": (1, 0)}, table.gap, past, ((1, 0, 1), (1, 1, 1)))

    def test_gain_on_no_member(self):
        table = close_table(TURNS, 5, looks=1)
        self.assertTrue(all(table.gain_on(index) >= Ratio(1, 3) for index in range(3)))
        for index in (-1, 3, HUGE, -HUGE):
            self.raises(NoPlace, {}, table.gain_on, index)


class ErrorsTest(Case):

    def test_defaults(self):
        table = close_table(TURNS, 4)
        self.assertEqual((table.tries, table.looks), (1, 0))

    def test_errors_in_order(self):
        wide = family_of_rows(LONG, [1] * 17)
        for tries in (-1, 4, 6, HUGE):
            told = {"name": "tries", "value": tries}
            self.raises(BadNumber, told, close_table, wide, 1, tries=tries, looks=-1)
        for looks in (-1, 3, HUGE):
            told = {"name": "looks", "value": looks}
            self.raises(BadNumber, told, close_table, wide, 1, tries=3, looks=looks)
        self.raises(TooMany, {"name": "cells", "most": 16}, close_table, wide, 1)
        self.raises(TooMany, {"name": "cells", "most": 16}, close_table, wide, 1, tries=0, looks=2)
        self.assertEqual(close_table(family_of_rows(House(16, [("a", 6)]), [1] * 16), 1).value, 1)

    def test_pasts(self):
        most = {"name": "pasts", "most": 100}
        family = steps_family(4)
        self.assertEqual(len(all_pasts(list(family), 1)), 101)
        self.raises(TooMany, most, close_table, family, 1, looks=1)
        self.assertEqual(close_table(family, -1).looks, 0)
        # 13 cells have 92 pasts of at most two looks if nothing differs, and 14 cells have 106.
        self.assertEqual(close_table(family_of_rows(House(13, [("a", 1)]), [0] * 13), 1, looks=2).value, 0)
        self.raises(TooMany, most, close_table, family_of_rows(House(14, [("a", 1)]), [0] * 14), 1, looks=2)

    def test_family_stays(self):
        watches = list(TURNS)
        close_table(TURNS, 4, tries=3, looks=2)
        self.assertEqual(list(TURNS), watches)
        self.assertEqual(len(all_cells(RING)), 3)
