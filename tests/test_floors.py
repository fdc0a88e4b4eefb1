"""Points 39 to 42: bounds from differences, floors, the best lots and starts, and how layings come in."""

import itertools

from tests.brute import chances, fraction
from tests.checks import HUGE, Case
from watchbeats.beats import Beat
from watchbeats.crews import Crew
from watchbeats.differences import differences, meetings
from watchbeats.errors import BadNumber, Meets, OtherHours, TooMany, WrongLength
from watchbeats.evenlots import is_even, squares, told_back
from watchbeats.fewest import fewest_starts, is_enough
from watchbeats.floors import best_lots, best_starts, floor_bound, no_look_bound, one_look_bound
from watchbeats.houses import House
from watchbeats.lots import Lot
from watchbeats.partners import starts_once
from watchbeats.plans import Plan
from watchbeats.ratio import Ratio
from watchbeats.turning import turned_bound
from watchbeats.watches import Watch

GATES = [("east", 3), ("west", 5), ("north", 0), ("south", 7)]


def drawn_lot(chance, hours):
    return Lot(hours, chance.sample(range(hours), chance.randint(0, hours)))


def lots_of(hours, size):
    return [Lot(hours, list(members)) for members in itertools.combinations(range(hours), size)]


class BoundsTest(Case):

    def check(self, house, lots):
        watch = Watch.of_lots(house, lots)
        for looks, call in ((0, no_look_bound), (1, one_look_bound)):
            bound = call(house, lots)
            self.assertIs(bound.__class__, Ratio)
            self.assertEqual(bound, turned_bound(watch, looks=looks).bound)

    def test_all_lots_of_small_rings(self):
        for hours in range(1, 7):
            for size in range(hours + 1):
                for lot in lots_of(hours, size):
                    self.check(House(hours, GATES[:1]), [lot])

    def test_drawn_lots(self):
        chance = chances(1)
        for gates in (2, 3, 4):
            for _ in range(30):
                hours = chance.randint(1, 12 if gates < 4 else 8)
                self.check(House(hours, chance.sample(GATES, gates)), [drawn_lot(chance, hours) for _ in range(gates)])

    def test_empty_and_full_lots(self):
        house = House(5, [("east", 3), ("west", 5)])
        empty, full, some = Lot(5, []), Lot.full(5), Lot(5, [0, 2])
        for lots in itertools.product((empty, full, some), repeat=2):
            self.check(house, list(lots))
        self.assertEqual([no_look_bound(house, [full, full]), one_look_bound(house, [full, full])], [0, 0])
        self.assertEqual([no_look_bound(house, [empty, empty]), one_look_bound(house, [empty, empty])], [5, 5])

    def test_rings_of_one_hour(self):
        for gates in (1, 2, 3):
            house = House(1, [("a", 4), ("b", 9), ("c", 2)][:gates])
            for lots in itertools.product((Lot(1, []), Lot(1, [0])), repeat=gates):
                self.check(house, list(lots))

    def test_largest_rings(self):
        chance = chances(2)
        house = House(24, [("a", 60), ("b", 59)])
        self.check(house, [drawn_lot(chance, 24), drawn_lot(chance, 24)])
        self.check(House(23, [("a", 60)]), [squares(23)])

    def test_values(self):
        house = House(7, [("a", 3)])
        self.assertEqual([no_look_bound(house, [Lot(7, [0, 1, 3])]), one_look_bound(house, [Lot(7, [0, 1, 3])])],
                         [Ratio(12, 7), 2])
        # The same hours at both gates: who sees a guard at one gate knows of one at the other in that hour.
        two = House(3, [("a", 1), ("b", 6)])
        self.assertEqual([one_look_bound(two, [Lot(3, [0]), Lot(3, [0])]), no_look_bound(two, [Lot(3, [0])] * 2)],
                         [6, 4])

    def test_lots_with_the_same_differences(self):
        one, two = list(told_back([4, 1, 1, 1, 1, 1, 2, 1, 1, 1, 1, 1]))[:2]
        house = House(12, [("a", 5)])
        self.assertEqual(differences(one), differences(two))
        for call in (no_look_bound, one_look_bound):
            self.assertEqual(call(house, [one]), call(house, [two]))
        for looks in (0, 1):
            self.assertEqual(turned_bound(Watch.of_lots(house, [one]), looks=looks).bound,
                             turned_bound(Watch.of_lots(house, [two]), looks=looks).bound)

    def test_errors(self):
        house = House(3, [("a", 1), ("b", 2)])
        lot, other = Lot(3, [0]), Lot(4, [0])
        for call in (no_look_bound, one_look_bound):
            for lots in ([], [other], [other] * 3):
                self.raises(WrongLength, {"length": len(lots)}, call, house, lots)
            self.raises(OtherHours, {}, call, house, [lot, other])
            self.raises(OtherHours, {}, call, house, [other, lot])


class FloorTest(Case):

    def test_values(self):
        self.assertEqual([str(floor_bound(7, 3, 1)), str(floor_bound(7, 3, 1, looks=1))], ["4/7", "2/3"])
        self.assertEqual([floor_bound(9, 0, 5), floor_bound(9, 0, 5, looks=1)], [5, 5])
        self.assertEqual([floor_bound(9, 9, 5), floor_bound(9, 9, 5, looks=1)], [0, 0])
        self.assertEqual([floor_bound(1, size, 5, looks=looks) for size in (0, 1) for looks in (0, 1)], [5, 5, 0, 0])
        self.assertEqual([floor_bound(2, 1, 5, looks=looks) for looks in (0, 1)], [Ratio(5, 2), 5])
        self.assertEqual(floor_bound(7, 3, 0, looks=1), 0)
        for size in (0, 3, 7):
            for looks in (0, 1):
                self.assertIs(floor_bound(7, size, 1, looks=looks).__class__, Ratio)

    def test_large_numbers(self):
        self.assertEqual(floor_bound(HUGE, 1, HUGE), HUGE - 1)
        self.assertEqual(floor_bound(HUGE, HUGE - 1, 3, looks=1), Ratio(3, HUGE - 1))

    def test_errors_in_order(self):
        for hours in (0, -1, -HUGE):
            told = {"name": "hours", "value": hours}
            self.raises(BadNumber, told, floor_bound, hours, -1, -1, looks=2)
        for size in (-1, 8, HUGE):
            self.raises(BadNumber, {"name": "size", "value": size}, floor_bound, 7, size, -1, looks=2)
        for stake in (-1, -HUGE):
            self.raises(BadNumber, {"name": "stake", "value": stake}, floor_bound, 7, 0, stake, looks=2)
        for looks in (-1, 2, HUGE):
            self.raises(BadNumber, {"name": "looks", "value": looks}, floor_bound, 7, 7, 0, looks=looks)

    def test_lots_and_floors(self):
        for stake in (0, 1, 4):
            for hours in range(1, 9):
                house = House(hours, [("a", stake)])
                for size in range(hours + 1):
                    for lot in lots_of(hours, size)[:40]:
                        self.assertEqual(no_look_bound(house, [lot]), floor_bound(hours, size, stake))
                        bound, floor = one_look_bound(house, [lot]), floor_bound(hours, size, stake, looks=1)
                        self.assertGreaterEqual(bound, floor)
                        self.assertIs(bound == floor, stake == 0 or is_even(lot))


class BestTest(Case):

    def test_example(self):
        bound, lots = best_lots(7, 3)
        self.assertEqual([str(bound), len(lots), lots[0].members, lots[1].members], ["2/3", 2, [0, 1, 3], [0, 1, 5]])

    def test_best_lots(self):
        for hours in range(1, 8):
            house = House(hours, [("a", 1)])
            for size in range(hours + 1):
                bounds = [(one_look_bound(house, [lot]), lot) for lot in lots_of(hours, size)]
                least = min(fraction(bound) for bound, _ in bounds)
                told = best_lots(hours, size)
                self.assertEqual((told.__class__, told[0].__class__, told[1].__class__), (tuple, Ratio, list))
                self.assertEqual(fraction(told[0]), least)
                self.assertEqual(told[1], [lot for bound, lot in bounds
                                           if fraction(bound) == least and lot == lot.least_turn()])

    def test_largest_ring(self):
        for size in range(13):
            bound, lots = best_lots(12, size)
            self.assertGreaterEqual(bound, floor_bound(12, size, 1, looks=1))
            members = [lot.members for lot in lots]
            self.assertEqual(members, sorted(members))
            for lot in lots:
                self.assertEqual((len(lot), lot.least_turn()), (size, lot))
                self.assertEqual(one_look_bound(House(12, [("a", 1)]), [lot]), bound)
        self.assertEqual([lot.members for lot in best_lots(12, 0)[1]], [[]])
        self.assertEqual(best_lots(12, 4)[0], Ratio(3, 4))
        self.assertGreater(len(best_lots(12, 4)[1]), 3)

    def test_best_lots_errors(self):
        for hours in (0, -1, 13, HUGE):
            self.raises(BadNumber, {"name": "hours", "value": hours}, best_lots, hours, -1)
        for size in (-1, 8, HUGE):
            self.raises(BadNumber, {"name": "size", "value": size}, best_lots, 7, size)

    def test_best_starts(self):
        chance = chances(3)
        for _ in range(25):
            hours = chance.randint(1, 6)
            house = House(hours, [("a", 4), ("b", 3)][:chance.randint(1, 2)])
            beat = Beat(house, [chance.randint(-1, len(house) - 1) for _ in range(hours)])
            guards, tries, looks = chance.randint(0, hours), chance.randint(0, 3), chance.randint(0, 2)
            bounds = [(turned_bound(Plan(house, Crew(beat, lot)).watch(), tries=tries, looks=looks).bound, lot)
                      for lot in lots_of(hours, guards)]
            least = min(fraction(bound) for bound, _ in bounds)
            told = best_starts(beat, guards, tries=tries, looks=looks)
            self.assertEqual((told.__class__, told[0].__class__, told[1].__class__), (tuple, Ratio, list))
            self.assertEqual(fraction(told[0]), least)
            self.assertEqual(told[1], [lot for bound, lot in bounds
                                       if fraction(bound) == least and lot == lot.least_turn()])

    def test_best_starts_of_the_largest_ring(self):
        beat = Beat(House(8, [("a", 4), ("b", 3)]), [0, 0, 1, -1, -1, 1, -1, 0])
        bound, starts = best_starts(beat, 4, tries=3, looks=2)
        for lot in starts:
            watch = Plan(beat.house, Crew(beat, lot)).watch()
            self.assertEqual(turned_bound(watch, tries=3, looks=2).bound, bound)
        self.assertEqual(best_starts(Beat(House(8, [("a", 4)]), [0, -1] * 4), 2)[0], 0)
        three = Beat(House(3, [("a", 6)]), [0, -1, -1])
        self.assertEqual([best_starts(three, 1)[0], best_starts(three, 1, looks=1)[0],
                          best_starts(three, 1, tries=2)[0]], [4, 6, 8])
        self.assertEqual(best_starts(Beat(House(8, [("a", 4)]), [0] + [-1] * 7), 0), (4, [Lot(8, [])]))

    def test_best_starts_errors_in_order(self):
        long = Beat(House(9, [("a", 1)]), [0] * 9)
        self.raises(BadNumber, {"name": "hours", "value": 9}, best_starts, long, -1, tries=4, looks=3)
        beat = Beat(House(6, [("a", 1), ("b", 1), ("c", 1)]), [0] * 6)
        for guards in (-1, 7, HUGE):
            told = {"name": "guards", "value": guards}
            self.raises(BadNumber, told, best_starts, beat, guards, tries=4, looks=3)
        self.raises(BadNumber, {"name": "tries", "value": 4}, best_starts, beat, 0, tries=4, looks=3)
        self.raises(BadNumber, {"name": "looks", "value": 3}, best_starts, beat, 6, tries=3, looks=3)
        self.raises(TooMany, {"name": "cells", "most": 16}, best_starts, beat, 6, looks=2)
        self.assertEqual(best_starts(beat, 6, looks=1)[0], 1)


class LayingTest(Case):
    """Point 42."""

    def test_direct_sums(self):
        chance = chances(4)
        told = [0, 0]
        for _ in range(150):
            hours = chance.randint(1, 9)
            house = House(hours, [("a", chance.randint(1, 9))])
            beat = Beat(house, [chance.choice((-1, -1, 0)) for _ in range(hours)])
            starts, at = drawn_lot(chance, hours), beat.lot(0)
            bound = turned_bound(Plan(house, Crew(beat, starts)).watch()).bound
            floor = Ratio(house.stakes[0] * (hours - len(at) * len(starts)), hours)
            try:
                direct = len(at + starts) >= 0
            except Meets:
                direct = False
            told[direct] += 1
            self.assertIs(bound == floor, direct)
            self.assertGreaterEqual(bound, floor)
        self.assertGreater(min(told), 30)

    def test_partners(self):
        house = House(12, [("a", 7)])
        beat = Beat(house, [0, 0, -1, -1, -1, -1, 0, 0, -1, -1, -1, -1])
        partners = list(starts_once(beat.lot(0)))
        self.assertGreater(len(partners), 1)
        for starts in partners:
            watch = Plan(house, Crew(beat, starts)).watch()
            self.assertEqual(watch.rows, [[1] * 12])
            for looks in range(3):
                told = [turned_bound(watch, tries=tries, looks=looks).bound for tries in (1, 2, 3)]
                self.assertEqual(told, [0, 7, 7])

    def test_bounds_of_nothing(self):
        chance = chances(5)
        told = [0, 0]
        for _ in range(120):
            house = House(chance.randint(1, 3), [("a", chance.randint(0, 1)), ("b", chance.randint(0, 1))])
            watch = Watch(house, [[chance.randint(1, 3) for _ in range(house.hours)] for _ in house.names])
            for tries in (1, 2, 3):
                enough = all(strength >= tries for stake, row in zip(house.stakes, watch.rows) if stake > 0
                             for strength in row)
                told[enough] += 1
                for looks in range(3):
                    self.assertIs(turned_bound(watch, tries=tries, looks=looks).bound == 0, enough)
        self.assertGreater(min(told), 30)

    def test_starts_that_are_enough(self):
        house = House(6, [("a", 3), ("b", 4)])
        beat = Beat(house, [0, 0, 0, 1, 1, 1])
        lots = [beat.lot(0), beat.lot(1)]
        for tries in (1, 2, 3):
            starts = fewest_starts(lots, [tries, tries]).starts
            self.assertIs(is_enough(lots, [tries, tries], starts), True)
            watch = Plan(house, Crew(beat, starts)).watch()
            self.assertEqual(watch.rows, [meetings(lot, -starts) for lot in lots])
            for looks in range(3):
                self.assertEqual(turned_bound(watch, tries=tries, looks=looks).bound, 0)
