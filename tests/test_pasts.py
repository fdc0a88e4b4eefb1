"""Point 30: pasts, what looks have seen."""

import inspect

from tests.brute import all_cells, all_pasts, chances, drawn_house, drawn_watch, is_fit
from tests.checks import HUGE, Case, spent
from watchbeats.errors import BadNumber, BadPast, Contradiction, TooMany
from watchbeats.families import Family
from watchbeats.houses import House
from watchbeats.pasts import fits, join_pasts, known_cells, left_of, pasts, total_looks
from watchbeats.watches import Watch

HOUSE = House(3, [("east", 3), ("west", 5)])
WATCH = Watch(HOUSE, [[1, 0, 2], [0, 96, 5]])
FAMILY = Family(HOUSE, [WATCH, WATCH << 1, WATCH])


def drawn_families(seed, many=30):
    chance = chances(seed)
    for _ in range(many):
        house = drawn_house(chance, chance.randint(1, 4), chance.randint(1, 3))
        yield Family(house, [drawn_watch(chance, house, most=2) for _ in range(chance.randint(1, 8))])


class PastTest(Case):

    def test_total_looks(self):
        self.assertEqual([total_looks(HOUSE, past) for past in (
            (), ((0, 0, 0),), ((0, 2, 96), (1, 0, 7)), ((0, 0, 1), (1, 1, 0), (1, 2, 3)))], [0, 1, 2, 3])
        self.refuses_bad_pasts(lambda past: total_looks(HOUSE, past))

    def test_fits(self):
        self.assertIs(fits(WATCH, ()), True)
        self.assertIs(fits(WATCH, ((0, 0, 1), (0, 2, 2), (1, 1, 96))), True)
        self.assertIs(fits(WATCH, ((0, 0, 1), (0, 2, 1))), False)
        self.assertIs(fits(WATCH, ((1, 2, 4),)), False)
        self.refuses_bad_pasts(lambda past: fits(WATCH, past))

    def test_left_of(self):
        self.assertEqual([left_of(FAMILY, past) for past in ((), ((0, 0, 1),), ((0, 0, 2),), ((0, 0, 0),))],
                         [[0, 1, 2], [0, 2], [1], []])
        self.refuses_bad_pasts(lambda past: left_of(FAMILY, past))
        for family in drawn_families(1, many=10):
            for past in pasts(family, looks=2):
                told = [at for at, watch in enumerate(family) if is_fit(watch, past)]
                self.assertEqual(left_of(family, past), told)

    def test_known_cells(self):
        self.assertEqual(known_cells(()), ())
        self.assertEqual(known_cells(((0, 2, 5), (1, 0, 0))), ((0, 2), (1, 0)))
        self.assertEqual(known_cells(((0, 2, 5), (1, 0, 0), (1, 2, 3))), ((0, 2), (1, 0), (1, 2)))


class JoinPastsTest(Case):

    def test_joins(self):
        one, two = ((0, 1, 4), (1, 0, 2)), ((0, 0, 9), (1, 0, 2))
        told = ((0, 0, 9), (0, 1, 4), (1, 0, 2))
        self.assertEqual([join_pasts(HOUSE, one, two), join_pasts(HOUSE, two, one)], [told, told])
        self.assertEqual([join_pasts(HOUSE, one, ()), join_pasts(HOUSE, (), one), join_pasts(HOUSE, (), ())],
                         [one, one, ()])
        self.assertEqual(join_pasts(HOUSE, told, told), told)

    def test_all_pairs(self):
        family = Family(HOUSE, [WATCH, Watch(HOUSE, [[1, 0, 2], [1, 96, 4]])])
        told = all_pasts(list(family), 3)
        for one in told:
            for two in told:
                seen = {}
                wrong = set()
                for gate, hour, strength in one + two:
                    if seen.setdefault((gate, hour), strength) != strength:
                        wrong.add((gate, hour))
                if wrong:
                    self.raises(Contradiction, {"cell": min(wrong)}, join_pasts, HOUSE, one, two)
                elif len(seen) > 3:
                    self.raises(TooMany, {"name": "looks", "most": 3}, join_pasts, HOUSE, one, two)
                else:
                    joined = tuple((gate, hour, seen[gate, hour]) for gate, hour in sorted(seen))
                    self.assertEqual(join_pasts(HOUSE, one, two), joined)

    def test_errors_in_order(self):
        four = ((0, 0, 1), (0, 1, 0), (0, 2, 1), (1, 0, 0))
        self.raises(BadPast, {"index": 0}, join_pasts, HOUSE, ((2, 0, 0),), four)
        self.raises(TooMany, {"name": "looks", "most": 3}, join_pasts, HOUSE, four, ((2, 0, 0),))
        self.raises(BadPast, {"index": 1}, join_pasts, HOUSE, ((0, 0, 1),), ((0, 0, 2), (0, 0, 2)))
        self.raises(TooMany, {"name": "looks", "most": 3}, join_pasts, HOUSE, ((0, 0, 2),), four)
        self.raises(Contradiction, {"cell": (0, 1)}, join_pasts, HOUSE,
                    ((0, 1, 1), (0, 2, 1), (1, 0, 1)), ((0, 0, 1), (0, 1, 2), (1, 0, 2)))


class PastsTest(Case):

    def test_all_in_order(self):
        for family in drawn_families(2):
            for looks in range(4):
                self.assertEqual(list(pasts(family, looks=looks)), all_pasts(list(family), looks))

    def test_small(self):
        family = Family.turns(Watch(House(3, [("a", 6)]), [[1, 0, 0]]))
        self.assertEqual(list(pasts(family)), [()])
        self.assertEqual(list(pasts(family, looks=1)),
                         [(), ((0, 0, 0),), ((0, 0, 1),), ((0, 1, 0),), ((0, 1, 1),), ((0, 2, 0),), ((0, 2, 1),)])
        one = Family(House(1, [("a", 6)]), [Watch(House(1, [("a", 6)]), [[96]])])
        self.assertEqual(list(pasts(one, looks=3)), [(), ((0, 0, 96),)])

    def test_largest(self):
        chance = chances(3)
        house = House(24, [("a", 1), ("b", 2)])
        family = Family(house, [drawn_watch(chance, house, most=96) for _ in range(8)])
        self.assertEqual(list(pasts(family, looks=2)), all_pasts(list(family), 2))
        self.assertEqual(len(list(pasts(family, looks=3))), len(all_pasts(list(family), 3)))
        self.assertEqual(len(all_cells(house)), 48)

    def test_errors_begin_with_the_iteration(self):
        self.assertTrue(inspect.isgenerator(pasts(FAMILY, looks=4)))
        for looks in (-1, 4, HUGE, -HUGE):
            told = {"name": "looks", "value": looks}
            self.raises(BadNumber, told, lambda: spent(pasts(FAMILY, looks=looks)))
