"""Point 58: watches on great rings and their bounds."""

from tests.brute import chances
from tests.checks import HUGE, Case
from tests.test_stretches import all_sets, drawn_stretches
from watchbeats.errors import BadNumber, OtherHours, TooMany, WrongLength
from watchbeats.floors import no_look_bound, one_look_bound
from watchbeats.great import GreatBound, GreatWatch, great_bound
from watchbeats.houses import House
from watchbeats.lots import Lot
from watchbeats.ratio import Ratio
from watchbeats.stretches import Stretches, bends, common
from watchbeats.turning import turned_bound
from watchbeats.watches import Watch

GREAT = 10 ** 40


def place_bound(great, found):
    """The number of point 39 for the place that a GreatBound tells."""
    hours = great.hours
    stake, tried = great.stakes[found.target], great.lots[found.target]
    if found.sight is None:
        return Ratio(stake * (hours - tried.size), hours)
    gate, strength = found.sight
    seen = great.lots[gate]
    if strength == 1:
        return Ratio(stake * (seen.size - common(tried, seen, found.later)), seen.size)
    return Ratio(stake * common(~tried, ~seen, found.later), hours - seen.size)


class GreatWatchTest(Case):

    def test_small(self):
        one, two = Stretches(6, [(1, 2)]), Stretches(6, [(5, 3)])
        great = GreatWatch(6, [3, 0], [one, two])
        self.assertEqual((great.hours, great.stakes, great.lots), (6, (3, 0), [one, two]))
        house = House(6, [("a", 3), ("b", 0)])
        self.assertEqual(great.listed(), Watch(house, [[0, 1, 1, 0, 0, 0], [1, 1, 0, 0, 0, 1]]))
        four = GreatWatch(12, [1, 2, 60, 0], [Stretches(12, [])] * 4)
        self.assertEqual(four.listed(), Watch.empty(House(12, [("a", 1), ("b", 2), ("c", 60), ("d", 0)])))

    def test_what_is_passed_stays_and_what_is_told_is_new(self):
        stakes, rows = [3], [Stretches(6, [(1, 2)])]
        great = GreatWatch(6, stakes, rows)
        stakes[0], rows[0] = 4, None
        great.lots.clear()
        self.assertEqual((great.stakes, great.lots), ((3,), [Stretches(6, [(1, 2)])]))

    def test_errors_in_order(self):
        row, other = Stretches(6, []), Stretches(7, [])
        for hours in (0, -1, GREAT + 1, HUGE, -HUGE):
            self.raises(BadNumber, {"name": "hours", "value": hours}, GreatWatch, hours, [], [])
        self.raises(BadNumber, {"name": "gates", "value": 0}, GreatWatch, 6, [], [other])
        self.raises(TooMany, {"name": "gates", "most": 4}, GreatWatch, 6, [-1] * 5, [row] * 5)
        for stake in (-1, 61, HUGE, -HUGE):
            self.raises(BadNumber, {"name": "stake", "value": stake}, GreatWatch, 6, [60, stake, 99], [other])
        for rows in ([], [other], [other] * 3):
            self.raises(WrongLength, {"length": len(rows)}, GreatWatch, 6, [1, 2], rows)
        self.raises(OtherHours, {}, GreatWatch, 6, [1, 2], [row, other])
        self.raises(OtherHours, {}, GreatWatch, GREAT, [1], [row])

    def test_listed_has_the_errors_of_a_house(self):
        for hours in (25, GREAT):
            self.raises(BadNumber, {"name": "hours", "value": hours},
                        GreatWatch(hours, [1], [Stretches(hours, [])]).listed)
        great = GreatWatch(24, [1, 2, 3], [Stretches(24, [])] * 3)
        self.raises(TooMany, {"name": "cells", "most": 48}, great.listed)


class GreatBoundTest(Case):

    def check(self, great):
        """Holds both bounds against their places and, on small rings, against the bounds of the listed lots."""
        for looks in (0, 1):
            found = great_bound(great, looks=looks)
            self.assertEqual((found.__class__, found.bound.__class__), (GreatBound, Ratio))
            self.assertEqual(found.bound, place_bound(great, found))
            self.assertIn(found.target, range(len(great.stakes)))
            if found.sight is None:
                self.assertIs(found.later, None)
            else:
                self.assertEqual((looks, found.sight[1] in (0, 1)), (1, True))
                self.assertIn(found.later, range(int(found.sight[0] == found.target), great.hours))
            if great.hours <= 24 and great.hours * len(great.stakes) <= 48:
                watch = great.listed()
                lots = [row.listed() for row in great.lots]
                told = [no_look_bound, one_look_bound][looks](watch.house, lots)
                self.assertEqual(found.bound, told)

    def test_all_small_watches_of_one_gate(self):
        for hours in range(1, 8):
            for _, row in all_sets(hours):
                self.check(GreatWatch(hours, [5], [row]))

    def test_all_small_watches_of_two_gates(self):
        for hours in range(1, 5):
            for _, one in all_sets(hours):
                for _, two in all_sets(hours):
                    self.check(GreatWatch(hours, [5, 4], [one, two]))

    def test_drawn(self):
        chance = chances(1)
        for _ in range(150):
            hours, gates = chance.randint(1, 24), chance.randint(1, 4)
            rows = [Stretches(hours, drawn_stretches(chance, hours)) for _ in range(gates)]
            self.check(GreatWatch(hours, [chance.randint(0, 9) for _ in range(gates)], rows))

    def test_turned_bound_of_the_listed_watch(self):
        chance = chances(2)
        for _ in range(25):
            hours, gates = chance.randint(1, 8), chance.randint(1, 3)
            rows = [Stretches(hours, drawn_stretches(chance, hours, most=2)) for _ in range(gates)]
            great = GreatWatch(hours, [chance.randint(0, 9) for _ in range(gates)], rows)
            for looks in (0, 1):
                self.assertEqual(great_bound(great, looks=looks).bound, turned_bound(great.listed(), looks=looks).bound)

    def test_bounds_beside_the_look(self):
        # One long stretch of guards: whoever sees one hour, tries the next one.
        row = Stretches(10, [(3, 5)])
        found = great_bound(GreatWatch(10, [1], [row]), looks=1)
        self.assertEqual((found.bound, found.sight[0], found.target), (1, 0, 0))
        full, none = Stretches(9, [(2, 9)]), Stretches(9, [])
        self.assertEqual([great_bound(GreatWatch(9, [7], [lot]), looks=looks).bound
                          for lot in (full, none) for looks in (0, 1)], [0, 0, 7, 7])
        # Of all hours but one, or of one hour alone, the bound stands beside the look at d = 1 or d = n - 1, too.
        for hours in (2, 3, 24, GREAT):
            one = Stretches(hours, [(hours - 1, 1)])
            found = great_bound(GreatWatch(hours, [6], [one]), looks=1)
            self.assertEqual(found.bound, 6)
            self.check(GreatWatch(hours, [6], [one]))
            found = great_bound(GreatWatch(hours, [6], [~one]), looks=1)
            self.assertEqual(found.bound, Ratio(6, hours - 1))
            self.check(GreatWatch(hours, [6], [~one]))

    def test_ring_of_one_hour(self):
        none, full = Stretches(1, []), Stretches(1, [(0, 1)])
        self.assertEqual(great_bound(GreatWatch(1, [6], [none]), looks=1).bound, 6)
        self.assertEqual(great_bound(GreatWatch(1, [6, 2], [full, none]), looks=1).bound, 2)

    def test_great_ring(self):
        half = Stretches(10 ** 40, [(0, 5 * 10 ** 39)])
        self.assertEqual([common(half, half, 1), len(bends(half, half))],
                         [4999999999999999999999999999999999999999, 2])
        self.assertEqual(str(great_bound(GreatWatch(10 ** 40, [4], [half])).bound), "2")
        self.assertEqual(great_bound(GreatWatch(GREAT, [4], [half]), looks=1).bound, 4)
        # Three hours in a row have no guard; whoever sees one of them tries the next one.
        gap = Stretches(GREAT, [(1, GREAT - 3)])
        self.assertEqual(great_bound(GreatWatch(GREAT, [6], [gap]), looks=1).bound, 4)
        self.check(GreatWatch(GREAT, [6], [gap]))

    def test_great_rings_are_small_ones_stretched(self):
        chance = chances(3)
        for _ in range(40):
            hours, gates = chance.randint(2, 12), chance.randint(1, 3)
            stakes = [chance.randint(0, 9) for _ in range(gates)]
            small = [Stretches(hours, drawn_stretches(chance, hours)) for _ in range(gates)]
            times = GREAT // hours
            great = GreatWatch(hours * times, stakes, [row * times for row in small])
            self.check(great)
            self.assertEqual(great_bound(great).bound, great_bound(GreatWatch(hours, stakes, small)).bound)

    def test_largest(self):
        chance = chances(4)
        rows = []
        for gate in range(4):
            starts = sorted(chance.sample(range(10 ** 9), 6))
            rows.append(Stretches(GREAT, [(start * 10 ** 31 + gate, chance.randint(1, 10 ** 31)) for start in starts]))
        great = GreatWatch(GREAT, [60, 59, 58, 57], rows)
        self.check(great)
        # No later hour of many is worse than the place that is told.
        found = great_bound(great, looks=1)
        for later in [chance.randrange(1, GREAT) for _ in range(40)]:
            for sight in [(gate, strength) for gate in range(4) for strength in (0, 1)]:
                for target in range(4):
                    self.assertLessEqual(place_bound(great, GreatBound(None, target, sight, later)), found.bound)

    def test_wrong_looks(self):
        great = GreatWatch(2, [1], [Stretches(2, [])])
        for looks in (-1, 2, HUGE, -HUGE):
            self.raises(BadNumber, {"name": "looks", "value": looks}, great_bound, great, looks=looks)

    def test_the_listed_lots(self):
        great = GreatWatch(24, [1, 2], [Stretches(24, [(23, 2)]), Stretches(24, [])])
        self.assertEqual([great.listed().met(gate) for gate in (0, 1)], [Lot(24, [0, 23]), Lot(24, [])])
