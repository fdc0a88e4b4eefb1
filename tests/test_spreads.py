"""Point 24: spreads of tries."""

import inspect
import itertools
import math

from tests.brute import all_cells, all_spreads
from tests.checks import HUGE, Case, spent
from watchbeats.errors import BadNumber, BadSpread, NoPlace, TooMany
from watchbeats.houses import House
from watchbeats.spreads import count_spreads, spreads, total_tries

HOUSE = House(3, [("east", 3), ("west", 5)])


class TotalTriesTest(Case):

    def test_totals(self):
        self.assertEqual([total_tries(HOUSE, spread) for spread in (
            (), ((0, 0, 1),), ((1, 2, 6),), ((0, 0, 1), (0, 2, 2), (1, 0, 3)))], [0, 1, 6, 6])

    def test_every_spread_of_spreads(self):
        for spread in all_spreads(all_cells(HOUSE), 4):
            self.assertEqual(total_tries(HOUSE, spread), sum(x for _, _, x in spread))

    def test_no_cell(self):
        for gate, hour in ((-1, 0), (2, 0), (0, -1), (0, 3), (HUGE, 0), (0, HUGE)):
            self.raises(BadSpread, {"index": 0}, total_tries, HOUSE, ((gate, hour, 1),))
        self.raises(BadSpread, {"index": 2}, total_tries, HOUSE, ((0, 0, 1), (0, 1, 1), (2, 0, 1)))

    def test_tries_below_one(self):
        for tries in (0, -1, -HUGE):
            self.raises(BadSpread, {"index": 1}, total_tries, HOUSE, ((0, 0, 1), (1, 0, tries)))

    def test_cells_ascend_strictly(self):
        self.raises(BadSpread, {"index": 1}, total_tries, HOUSE, ((0, 1, 1), (0, 1, 2)))
        self.raises(BadSpread, {"index": 1}, total_tries, HOUSE, ((0, 1, 1), (0, 0, 1)))
        self.raises(BadSpread, {"index": 2}, total_tries, HOUSE, ((0, 0, 1), (1, 0, 1), (0, 2, 1)))
        self.assertEqual(total_tries(HOUSE, ((0, 2, 1), (1, 0, 1))), 2)

    def test_too_many_tries_come_last(self):
        most = {"name": "tries", "most": 6}
        self.raises(TooMany, most, total_tries, HOUSE, ((0, 0, 7),))
        self.raises(TooMany, most, total_tries, HOUSE, ((0, 0, HUGE),))
        self.raises(TooMany, most, total_tries, HOUSE, ((0, 0, 3), (0, 1, 3), (0, 2, 1)))
        self.raises(BadSpread, {"index": 1}, total_tries, HOUSE, ((0, 0, 7), (0, 0, 1)))


class SpreadsTest(Case):

    def test_example(self):
        self.assertEqual(list(spreads(House(2, [("a", 1)]), tries=2)),
                         [(), ((0, 0, 1),), ((0, 0, 1), (0, 1, 1)), ((0, 0, 2),), ((0, 1, 1),), ((0, 1, 2),)])

    def test_all_in_order(self):
        for hours, gates, tries in ((1, 1, 6), (2, 1, 6), (3, 2, 4), (5, 1, 3), (2, 4, 2), (4, 2, 0), (4, 1, 1)):
            house = House(hours, [("a", 1), ("b", 0), ("c", 2), ("d", 3)][:gates])
            told = list(spreads(house, tries=tries))
            self.assertEqual(told, all_spreads(all_cells(house), tries))
            self.assertEqual(len(told), count_spreads(hours * gates, tries=tries))

    def test_defaults(self):
        self.assertEqual(list(spreads(HOUSE)), all_spreads(all_cells(HOUSE), 1))

    def test_no_tries(self):
        self.assertEqual(list(spreads(HOUSE, tries=0)), [()])

    def test_known(self):
        cells = all_cells(HOUSE)
        for known in ((), ((0, 0),), ((1, 2), (0, 1)), ((1, 0), (1, 0), (1, 0), (0, 2)), tuple(cells)):
            told = all_spreads([cell for cell in cells if cell not in known], 3)
            self.assertEqual(list(spreads(HOUSE, tries=3, known=known)), told)

    def test_largest_house(self):
        house = House(24, [("a", 1), ("b", 2)])
        self.assertEqual(list(spreads(house, tries=2)), all_spreads(all_cells(house), 2))
        first = list(itertools.islice(spreads(house, tries=6), 4))
        self.assertEqual(first[1:3], [((0, 0, 1),), ((0, 0, 1), (0, 1, 1))])
        self.assertEqual(sum(1 for _ in spreads(house, tries=3)), math.comb(51, 3))

    def test_errors_begin_with_the_iteration(self):
        self.assertTrue(inspect.isgenerator(spreads(HOUSE, tries=7, known=((9, 9),))))
        for tries in (-1, 7, HUGE, -HUGE):
            told = {"name": "tries", "value": tries}
            self.raises(BadNumber, told, lambda: spent(spreads(HOUSE, tries=tries, known=((9, 9),))))
        for cell in ((-1, 0), (2, 0), (0, 3), (0, -1)):
            self.raises(NoPlace, {}, lambda: spent(spreads(HOUSE, known=((0, 0), cell))))
            self.raises(NoPlace, {}, lambda: next(spreads(HOUSE, tries=0, known=(cell,))))
        self.assertEqual(len(list(spreads(House(1, [("a", 1)]), tries=6))), 7)


class CountSpreadsTest(Case):

    def test_small_numbers(self):
        for cells in range(6):
            house_cells = [(0, hour) for hour in range(cells)]
            for tries in range(7 if cells < 4 else 4):
                self.assertEqual(count_spreads(cells, tries=tries), len(all_spreads(house_cells, tries)))
        self.assertEqual(count_spreads(7), 8)

    def test_large_numbers(self):
        for cells in (10 ** 59, HUGE):
            self.assertEqual([count_spreads(cells, tries=tries) for tries in range(3)],
                             [1, cells + 1, (cells + 2) * (cells + 1) // 2])
            product = 1
            for by in range(1, 7):
                product = product * (cells + by)
            self.assertEqual(count_spreads(cells, tries=6), product // 720)

    def test_errors(self):
        for cells in (-1, -HUGE):
            self.raises(BadNumber, {"name": "cells", "value": cells}, count_spreads, cells, tries=9)
        for tries in (-1, 7, HUGE):
            self.raises(BadNumber, {"name": "tries", "value": tries}, count_spreads, 0, tries=tries)
