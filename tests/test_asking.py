"""Points 46 and 47: how to find out which watch stands."""

import itertools

from tests.brute import all_cells, chances, drawn_watch
from tests.checks import HUGE, Case
from tests.test_tables import LONG, TURNS, drawn_family, family_of_rows, steps_family
from watchbeats.asking import Asking, fixed_cells
from watchbeats.errors import BadNumber, NoPlace, TooMany
from watchbeats.families import Family
from watchbeats.houses import House
from watchbeats.watches import Watch


def parts_at(family, group, cell):
    parts = {}
    for at in group:
        parts.setdefault(family[at][cell], []).append(at)
    return [(seen, tuple(parts[seen])) for seen in sorted(parts)]


def told_need(family, group, known):
    """The need of a group and its first cell, by the words of the point."""
    if group not in known:
        known[group] = (0, None)
        for cell in reversed(all_cells(family.house)):
            parts = parts_at(family, group, cell)
            if len(parts) > 1:
                need = 1 + max(told_need(family, part, known)[0] for _, part in parts)
                if known[group][1] is None or need <= known[group][0]:
                    known[group] = (need, cell)
    return known[group]


def told_tree(family, group, known):
    cell = told_need(family, group, known)[1]
    if cell is None:
        return group[0]
    parts = parts_at(family, group, cell)
    return (*cell, tuple((seen, told_tree(family, part, known)) for seen, part in parts))


def told_fixed(family):
    """The first list of the fewest cells that tell unequal members apart."""
    cells = all_cells(family.house)
    kinds = len({str(watch.rows) for watch in family})
    for many in range(len(cells) + 1):
        for chosen in itertools.combinations(cells, many):
            if len({tuple(watch[cell] for cell in chosen) for watch in family}) == kinds:
                return list(chosen)


class AskingTest(Case):

    def check(self, family, groups):
        asking = Asking(family)
        known = {}
        for group in groups:
            self.assertEqual((asking.need(list(group)), asking.next_cell(list(group))),
                             told_need(family, group, known))
        whole = tuple(range(len(family)))
        self.assertEqual(asking.questions(), told_tree(family, whole, known))
        self.assertEqual(asking.looks, told_need(family, whole, known)[0])
        self.assertEqual(asking.family, family)
        fixed = fixed_cells(family)
        self.assertEqual(fixed, told_fixed(family))
        self.assertLessEqual(asking.looks, len(fixed))
        self.assertLess(len(fixed), len(family))

    def all_groups(self, many):
        return [group for size in range(1, many + 1) for group in itertools.combinations(range(many), size)]

    def test_small(self):
        asking = Asking(TURNS)
        self.assertEqual(asking.questions(), (0, 0, ((0, (0, 1, ((0, 2), (1, 1)))), (1, 0))))
        self.assertEqual([asking.looks, asking.need([0]), asking.need([0, 1]), asking.need([0, 1, 2])], [2, 0, 1, 2])
        self.assertEqual([asking.next_cell([2]), asking.next_cell([1, 2]), asking.next_cell([0, 1, 2])],
                         [None, (0, 1), (0, 0)])
        self.assertEqual(fixed_cells(TURNS), [(0, 0), (0, 1)])

    def test_equal_members(self):
        family = family_of_rows(House(2, [("a", 6)]), [1, 0], [1, 1], [1, 0])
        asking = Asking(family)
        self.assertEqual([asking.need([0, 2]), asking.next_cell([0, 2]), asking.need([0, 1])], [0, None, 1])
        self.assertEqual(asking.questions(), (0, 1, ((0, 0), (1, 1))))
        watch = Watch(House(2, [("a", 6)]), [[1, 0]])
        for many in (1, 8):
            family = Family(watch.house, [watch] * many)
            self.assertEqual([Asking(family).questions(), Asking(family).looks, fixed_cells(family)], [0, 0, []])

    def test_the_best_cell_is_not_the_first_that_divides(self):
        # The first cell tells one member apart, the later two tell all.
        family = family_of_rows(House(3, [("a", 6)]), [1, 0, 0], [0, 0, 1], [0, 1, 0], [0, 1, 1])
        asking = Asking(family)
        self.assertEqual([asking.looks, asking.next_cell([0, 1, 2, 3])], [2, (0, 1)])
        self.assertEqual(fixed_cells(family), [(0, 1), (0, 2)])

    def test_one_cell_after_another_can_be_better_than_fixed_ones(self):
        family = family_of_rows(House(3, [("a", 6)]), [0, 0, 0], [0, 1, 0], [1, 0, 0], [1, 0, 1])
        self.assertEqual([Asking(family).looks, fixed_cells(family)], [2, [(0, 0), (0, 1), (0, 2)]])

    def test_all_groups(self):
        chance = chances(1)
        for _ in range(40):
            family = drawn_family(chance, chance.randint(1, 4), chance.randint(1, 3), most=chance.randint(1, 3))
            self.check(family, self.all_groups(len(family)))

    def test_largest(self):
        for family in (steps_family(16), Family.turns(Watch(House(8, [("a", 1), ("b", 2)]), [[1] + [0] * 7] * 2))):
            self.check(family, self.all_groups(8))
        chance = chances(2)
        house = House(4, [("a", 1), ("b", 2), ("c", 3), ("d", 4)])
        self.check(Family(house, [drawn_watch(chance, house, most=1) for _ in range(8)]), self.all_groups(8))
        # Each member differs from the first one in a cell of its own, so seven looks are needed.
        house = House(16, [("a", 1)])
        family = family_of_rows(house, *[[int(hour == 15 - at) for hour in range(16)] for at in range(8)])
        self.check(family, self.all_groups(8))
        self.assertEqual([Asking(family).looks, len(fixed_cells(family))], [7, 7])

    def test_too_many_cells(self):
        family = Family.turns(Watch.empty(LONG))
        self.raises(TooMany, {"name": "cells", "most": 16}, Asking, family)
        self.raises(TooMany, {"name": "cells", "most": 16}, fixed_cells, family)

    def test_wrong_groups(self):
        asking = Asking(TURNS)
        for call in (asking.need, asking.next_cell):
            self.raises(BadNumber, {"name": "indexes", "value": 0}, call, [])
            for indexes in ([3], [-1], [0, 0], [1, 0], [0, 1, 2, 3], [HUGE], [-HUGE], [0, -1], [0, 2, 1]):
                self.raises(NoPlace, {}, call, indexes)
        indexes = [0, 2]
        asking.need(indexes)
        self.assertEqual(indexes, [0, 2])

    def test_lists_are_new(self):
        fixed_cells(TURNS).clear()
        self.assertEqual(len(fixed_cells(TURNS)), 2)
