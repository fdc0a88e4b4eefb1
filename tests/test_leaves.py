"""Point 45: which members looks leave."""

from tests.brute import all_pasts, chances, drawn_watch, is_fit
from tests.checks import HUGE, Case
from tests.test_tables import LONG, TURNS, drawn_family, family_of_rows, steps_family
from watchbeats.errors import BadNumber, TooMany
from watchbeats.families import Family
from watchbeats.houses import House
from watchbeats.leaves import leaves
from watchbeats.watches import Watch


def told_leaves(family, looks):
    """The leaves by going through all pasts."""
    found = {}
    for past in all_pasts(list(family), looks):
        left = tuple(at for at, watch in enumerate(family) if is_fit(watch, past))
        found.setdefault(left, []).append((len(past), past))
    return [(left, min(found[left])[1]) for left in sorted(found)]


class LeavesTest(Case):

    def test_small(self):
        self.assertEqual(leaves(TURNS), [((0, 1, 2), ())])
        self.assertEqual(leaves(TURNS, looks=1),
                         [((0,), ((0, 0, 1),)), ((0, 1), ((0, 2, 0),)), ((0, 1, 2), ()), ((0, 2), ((0, 1, 0),)),
                          ((1,), ((0, 1, 1),)), ((1, 2), ((0, 0, 0),)), ((2,), ((0, 2, 1),))])
        # One look leaves member 0, though the past with two looks stands before it in the order of tuples.
        family = family_of_rows(House(3, [("a", 6)]), [0, 0, 2], [0, 1, 1], [1, 0, 1])
        self.assertEqual(leaves(family, looks=2)[0], ((0,), ((0, 2, 2),)))
        self.assertIn((0,), [left for left, past in leaves(family, looks=1)])
        self.assertLess(((0, 0, 0), (0, 1, 0)), ((0, 2, 2),))

    def test_equal_members_stay_together(self):
        family = family_of_rows(House(2, [("a", 6)]), [1, 0], [1, 1], [1, 0])
        self.assertEqual(leaves(family, looks=2), [((0, 1, 2), ()), ((0, 2), ((0, 1, 0),)), ((1,), ((0, 1, 1),))])
        watch = Watch(House(2, [("a", 6)]), [[1, 0]])
        self.assertEqual(leaves(Family(watch.house, [watch] * 8), looks=2), [(tuple(range(8)), ())])
        self.assertEqual(leaves(Family(watch.house, [watch]), looks=1), [((0,), ())])

    def test_all_pasts(self):
        chance = chances(1)
        for _ in range(60):
            family = drawn_family(chance, chance.randint(1, 4), chance.randint(1, 2))
            for looks in range(3):
                self.assertEqual(leaves(family, looks=looks), told_leaves(family, looks))

    def test_largest(self):
        family = steps_family(16)
        self.assertEqual(leaves(family, looks=2), told_leaves(family, 2))
        chance = chances(2)
        house = House(8, [("a", 1), ("b", 2)])
        family = Family(house, [drawn_watch(chance, house, most=1) for _ in range(8)])
        self.assertEqual(leaves(family, looks=2), told_leaves(family, 2))

    def test_lists_are_new(self):
        leaves(TURNS, looks=1).clear()
        self.assertEqual(len(leaves(TURNS, looks=1)), 7)

    def test_errors_in_order(self):
        many = Family.turns(Watch.empty(LONG))
        for looks in (-1, 3, HUGE, -HUGE):
            self.raises(BadNumber, {"name": "looks", "value": looks}, leaves, many, looks=looks)
        self.raises(TooMany, {"name": "cells", "most": 16}, leaves, many)
        house = House(16, [("a", 1)])
        self.assertEqual(leaves(Family.turns(Watch.empty(house)), looks=2), [((0,), ())])
