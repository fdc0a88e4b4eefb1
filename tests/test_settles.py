"""Point 35: bounds that are settled, and looks that are borne."""

import itertools

from tests.brute import chances
from tests.checks import HUGE, Case
from tests.test_tables import LONG, TURNS, drawn_family, family_of_rows, steps_family
from watchbeats.errors import BadNumber, TooMany
from watchbeats.families import Family
from watchbeats.houses import House
from watchbeats.pasts import pasts
from watchbeats.ratio import Ratio
from watchbeats.settles import borne, settle
from watchbeats.tables import close_table
from watchbeats.watches import Watch


class SettleTest(Case):

    def check(self, family, parts, tries, looks):
        """The table of the bound is held, and that of the next smaller one is not."""
        told = settle(family, parts, tries=tries, looks=looks)
        self.assertIs(told.__class__, int)
        self.assertGreaterEqual(told, 0)
        self.assertIs(close_table(family, Ratio(told, parts), tries=tries, looks=looks).held, True)
        if told > 0:
            self.assertIs(close_table(family, Ratio(told - 1, parts), tries=tries, looks=looks).held, False)
        return told

    def test_turns(self):
        self.assertEqual([settle(TURNS, 1), settle(TURNS, 1, looks=1), settle(TURNS, 12, tries=2)], [4, 6, 96])
        five = Family.turns(Watch(House(3, [("a", 5)]), [[1, 0, 0]]))
        self.assertEqual([self.check(five, parts, 1, 0) for parts in (1, 2, 3, 4, 12)], [4, 7, 10, 14, 40])

    def test_drawn_families(self):
        chance = chances(1)
        for _ in range(40):
            family = drawn_family(chance, chance.randint(1, 3), chance.randint(1, 2), most=1)
            looks = chance.randint(0, 2)
            if len(list(pasts(family, looks=looks))) <= 100:
                self.check(family, chance.randint(1, 12), chance.randint(0, 3), looks)

    def test_nothing_to_lose(self):
        self.assertEqual(settle(family_of_rows(House(2, [("a", 0)]), [0, 0]), 5, tries=3, looks=2), 0)
        self.assertEqual(settle(family_of_rows(House(2, [("a", 9)]), [3, 3]), 5, tries=3, looks=2), 0)
        self.assertEqual(settle(family_of_rows(House(2, [("a", 9)]), [0, 0]), 5, tries=0, looks=1), 0)

    def test_all_to_lose(self):
        self.assertEqual(settle(family_of_rows(House(3, [("a", 60)]), [0, 0, 0]), 12, tries=3), 2160)
        self.assertEqual(settle(family_of_rows(House(1, [("a", 60)]), [0]), 12, tries=3, looks=2), 720)

    def test_largest_family(self):
        self.check(steps_family(3), 12, 3, 1)

    def test_errors_in_order(self):
        wide = family_of_rows(LONG, [1] * 17)
        for parts in (0, -1, 13, HUGE):
            told = {"name": "parts", "value": parts}
            self.raises(BadNumber, told, settle, wide, parts, tries=4, looks=3)
        self.raises(BadNumber, {"name": "tries", "value": 4}, settle, wide, 12, tries=4, looks=3)
        self.raises(BadNumber, {"name": "looks", "value": 3}, settle, wide, 1, looks=3)
        self.raises(TooMany, {"name": "cells", "most": 16}, settle, wide, 1)
        self.raises(TooMany, {"name": "pasts", "most": 100}, settle, steps_family(4), 1, looks=1)


class BorneTest(Case):

    def test_turns(self):
        self.assertEqual([borne(TURNS, bound) for bound in (3, 4 - Ratio(1, HUGE), 4, 5)],
                         [None, None, 0, 0])
        self.assertEqual([borne(TURNS, bound) for bound in (6, HUGE, -HUGE)], [2, 2, None])
        self.assertEqual([borne(TURNS, 8, tries=2), borne(TURNS, 7, tries=2), borne(TURNS, 0, tries=0)], [0, None, 2])

    def test_each_answer(self):
        # Two guards in four hours: the first look leaves two hours in three without a guard, the second one all.
        house = House(4, [("a", 6)])
        pairs = [[int(hour in pair) for hour in range(4)] for pair in itertools.combinations(range(4), 2)]
        family = family_of_rows(house, *pairs)
        self.assertEqual([settle(family, 1, looks=looks) for looks in range(3)], [3, 4, 6])
        self.assertEqual([borne(family, bound) for bound in (2, 3, Ratio(7, 2), 4, 5, 6)], [None, 0, 0, 1, 1, 2])
        self.assertEqual([borne(family, bound) for bound in (3 - Ratio(1, HUGE), 4 - Ratio(1, HUGE),
                                                             6 - Ratio(1, HUGE))], [None, 0, 1])

    def test_drawn_families(self):
        chance = chances(2)
        for _ in range(40):
            family = drawn_family(chance, 3, 1, most=1)
            bound, tries = Ratio(chance.randint(0, 40), 4), chance.randint(0, 3)
            held = [looks for looks in range(3) if close_table(family, bound, tries=tries, looks=looks).held]
            self.assertEqual(borne(family, bound, tries=tries), max(held, default=None))

    def test_errors_in_order(self):
        wide = family_of_rows(LONG, [1] * 17)
        for tries in (-1, 4, HUGE):
            self.raises(BadNumber, {"name": "tries", "value": tries}, borne, wide, 1, tries=tries)
        self.raises(TooMany, {"name": "cells", "most": 16}, borne, wide, 1)
        self.raises(TooMany, {"name": "pasts", "most": 100}, borne, steps_family(0), -1)
