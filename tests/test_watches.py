"""Points 21 and 22: watches."""

import math
import random

from tests.checks import HUGE, Case, spent
from watchbeats.errors import BadNumber, NoPlace, OtherHours, OtherHouse, SharedFactor, WrongLength
from watchbeats.houses import House
from watchbeats.lots import Lot
from watchbeats.watches import Watch

GATES = [("east", 3), ("west", 5)]
HOUSE = House(3, GATES)
ROWS = [[1, 0, 96], [0, 2, 2]]


def drawn_watches(seed, many=30):
    chance = random.Random(seed)
    for _ in range(many):
        hours = chance.randint(1, 12)
        house = House(hours, GATES[:chance.randint(1, 2)])
        yield Watch(house, [[chance.randint(0, 3) for _ in range(hours)] for _ in house.names])


class WatchTest(Case):

    def test_parts(self):
        watch = Watch(HOUSE, ROWS)
        self.assertEqual((watch.house, watch.rows), (HOUSE, ROWS))
        self.assertIs(watch.rows.__class__, list)
        self.assertIs(watch.rows[0].__class__, list)
        self.assertEqual(Watch.MOST, 96)

    def test_lists_are_copied(self):
        rows = [list(row) for row in ROWS]
        watch = Watch(HOUSE, rows)
        rows[0][0] = 7
        rows.append([])
        watch.rows[1][1] = 8
        watch.rows.pop()
        self.assertEqual((watch.rows, rows), (ROWS, [[7, 0, 96], [0, 2, 2], []]))

    def test_wrong_lengths(self):
        for rows in ([], [[97]], [[97]] * 3):
            self.raises(WrongLength, {"length": len(rows)}, Watch, HOUSE, rows)
        self.raises(WrongLength, {"length": 2}, Watch, HOUSE, [[1, 2, 3], [97, -1]])
        self.raises(WrongLength, {"length": 4}, Watch, HOUSE, [[97] * 4, [-1] * 3])

    def test_strengths(self):
        for strength in (-1, 97, HUGE, -HUGE):
            told = {"name": "strength", "value": strength}
            self.raises(BadNumber, told, Watch, HOUSE, [[0, strength, 99], [0]])
            self.raises(BadNumber, told, Watch, HOUSE, [[0, 96, 0], [1, 1, strength]])

    def test_item(self):
        watch = Watch(HOUSE, ROWS)
        for hour in (0, 1, 2, 3, -1, HUGE, -HUGE):
            self.assertEqual([watch[0, hour], watch[1, hour]], [ROWS[0][hour % 3], ROWS[1][hour % 3]])
        for gate in (-1, 2, HUGE):
            self.raises(NoPlace, {}, lambda: watch[gate, 0])

    def test_equality(self):
        watch = Watch(HOUSE, ROWS)
        self.assertIs(watch == Watch(House(3, list(GATES)), [list(row) for row in ROWS]), True)
        self.assertIs(watch != Watch(HOUSE, ROWS), False)
        for other in (Watch(HOUSE, ROWS[::-1]), Watch(House(3, [("east", 3), ("west", 6)]), ROWS), ROWS, None, 1):
            self.assertIs(watch == other, False)
            self.assertIs(watch != other, True)

    def test_turn_and_mirror(self):
        for watch in drawn_watches(1):
            cells = list(watch.house.cells())
            for by in (0, 1, -1, 5, HUGE, -HUGE):
                turned = watch << by
                self.assertTrue(all(turned[g, h] == watch[g, h - by] for g, h in cells))
            self.assertTrue(all((-watch)[g, h] == watch[g, -h] for g, h in cells))
        self.assertEqual((Watch(HOUSE, ROWS) << 1).rows, [[96, 1, 0], [2, 0, 2]])
        self.assertEqual((-Watch(HOUSE, ROWS)).rows, [[1, 96, 0], [0, 2, 2]])

    def test_stretch(self):
        for watch in drawn_watches(2):
            hours = watch.house.hours
            for times in (0, 1, -1, 2, 3, 4, 5, -7, 12, HUGE, -HUGE):
                shared = math.gcd(times, hours)
                if shared > 1:
                    self.raises(SharedFactor, {"factor": shared}, lambda: watch * times)
                    self.raises(SharedFactor, {"factor": shared}, lambda: times * watch)
                else:
                    for stretched in (watch * times, times * watch):
                        self.assertEqual(stretched.house, watch.house)
                        self.assertTrue(all(stretched[g, times * h] == watch[g, h] for g, h in watch.house.cells()))

    def test_stretch_by_zero(self):
        one = Watch(House(1, GATES), [[4], [5]])
        self.assertEqual(one * 0, one)
        self.raises(SharedFactor, {"factor": 3}, lambda: Watch(HOUSE, ROWS) * 0)
        self.raises(SharedFactor, {"factor": 3}, lambda: -6 * Watch(HOUSE, ROWS))

    def test_sum(self):
        one, two = Watch(HOUSE, ROWS), Watch(HOUSE, [[95, 96, 0], [1, 1, 1]])
        self.assertEqual((one + two).rows, [[96, 96, 96], [1, 3, 3]])
        self.assertEqual((one.rows, two.rows), (ROWS, [[95, 96, 0], [1, 1, 1]]))

    def test_sum_errors(self):
        one = Watch(HOUSE, ROWS)
        for house in (House(3, [("east", 3), ("west", 6)]), House(4, GATES), House(3, GATES[:1])):
            other = Watch(house, [[96] * house.hours for _ in house.names])
            self.raises(OtherHouse, {}, lambda: one + other)
            self.raises(OtherHouse, {}, one.covers, other)
        more = Watch(HOUSE, [[0, 0, 1], [96, 95, 96]])
        self.raises(BadNumber, {"name": "strength", "value": 97}, lambda: one + more)
        more = Watch(HOUSE, [[0, 0, 0], [0, 95, 96]])
        self.raises(BadNumber, {"name": "strength", "value": 97}, lambda: one + more)
        self.raises(BadNumber, {"name": "strength", "value": 98}, lambda: one + (more << 2))

    def test_met(self):
        watch = Watch(HOUSE, ROWS)
        self.assertEqual([watch.met(0), watch.met(1)], [Lot(3, [0, 2]), Lot(3, [1, 2])])
        self.assertEqual(watch.met(1, least=2), Lot(3, [1, 2]))
        self.assertEqual(watch.met(0, least=96), Lot(3, [2]))
        self.assertEqual([watch.met(0, least=97), watch.met(0, least=HUGE)], [Lot(3, []), Lot(3, [])])
        self.assertEqual([watch.met(0, least=0), watch.met(0, least=-HUGE)], [Lot.full(3), Lot.full(3)])
        for gate in (-1, 2, HUGE):
            self.raises(NoPlace, {}, watch.met, gate)

    def test_unmet(self):
        watch = Watch(HOUSE, ROWS)
        self.assertEqual(list(watch.unmet(1)), [(0, 1), (1, 0)])
        self.assertEqual(list(watch.unmet(2)), [(0, 0), (0, 1), (1, 0)])
        self.assertEqual(list(watch.unmet(HUGE)), list(HOUSE.cells()))
        self.assertEqual([spent(watch.unmet(0)), spent(watch.unmet(-HUGE))], [[], []])

    def test_covers(self):
        watch = Watch(HOUSE, ROWS)
        self.assertIs(watch.covers(watch), True)
        self.assertIs(watch.covers(Watch.empty(HOUSE)), True)
        self.assertIs(Watch.empty(HOUSE).covers(watch), False)
        self.assertIs(watch.covers(Watch(HOUSE, [[1, 0, 95], [0, 2, 3]])), False)
        self.assertIs(watch.covers(Watch(HOUSE, [[1, 0, 5], [0, 2, 0]])), True)

    def test_step(self):
        for watch in drawn_watches(3, many=60):
            hours = watch.house.hours
            step = next(by for by in range(1, hours + 1) if (watch << by) == watch)
            self.assertEqual((watch.step, hours % step), (step, 0))
        house = House(12, GATES)
        told = [Watch(house, [[0] * 12, row]).step for row in ([1] * 12, [1, 0] * 6, [1, 0, 0, 0] * 3, [1] + [0] * 11)]
        self.assertEqual(told, [1, 2, 4, 12])
        self.assertEqual(Watch(house, [[1, 0] * 6, [1, 0, 0] * 4]).step, 6)

    def test_of_lots(self):
        watch = Watch.of_lots(HOUSE, [Lot(3, [0, 2]), Lot(3, [])])
        self.assertEqual(watch, Watch(HOUSE, [[1, 0, 1], [0, 0, 0]]))
        self.assertTrue(all(strength.__class__ is int for row in watch.rows for strength in row))
        other = Lot(4, [0])
        for lots in ([], [other], [other] * 3):
            self.raises(WrongLength, {"length": len(lots)}, Watch.of_lots, HOUSE, lots)
        self.raises(OtherHours, {}, Watch.of_lots, HOUSE, [Lot(3, [0]), other])

    def test_empty(self):
        self.assertEqual(Watch.empty(HOUSE).rows, [[0, 0, 0], [0, 0, 0]])
        self.assertEqual(Watch.empty(House(1, GATES[:1])).rows, [[0]])
