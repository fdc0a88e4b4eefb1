"""Points 43 and 44: what looks tell of the weights, and mean losses."""

from fractions import Fraction

from tests.brute import all_cells, all_pasts, all_spreads, chances, drawn_house, drawn_watch, drawn_weights, fraction
from tests.brute import is_fit, lost, open_cells
from tests.checks import HUGE, Case
from watchbeats.afterwards import after, mean_loss, seen_chances
from watchbeats.errors import BadPast, BadShares, BadSpread, NeverSeen, NoPlace, TooMany, WatchError, WrongLength
from watchbeats.families import Family
from watchbeats.houses import House
from watchbeats.pasts import join_pasts
from watchbeats.ratio import Ratio
from watchbeats.watches import Watch

HOUSE = House(3, [("east", 3), ("west", 5)])
FAMILY = Family(HOUSE, [Watch(HOUSE, [[1, 0, 2], [0, 4, 5]]), Watch(HOUSE, [[1, 0, 2], [0, 4, 1]]),
                        Watch(HOUSE, [[0, 0, 2], [0, 4, 1]])])
WEIGHTS = [Ratio(1, 2), Ratio(1, 3), Ratio(1, 6)]


def drawn_families(seed, many):
    """Families with weights."""
    chance = chances(seed)
    for _ in range(many):
        house = drawn_house(chance, chance.randint(1, 3), chance.randint(1, 2))
        family = Family(house, [drawn_watch(chance, house, most=2) for _ in range(chance.randint(1, 8))])
        yield family, drawn_weights(chance, len(family))


def as_fractions(weights):
    return [fraction(weight) for weight in weights]


class AfterTest(Case):

    def test_small(self):
        self.assertEqual(after(WEIGHTS, FAMILY, ()), WEIGHTS)
        self.assertEqual(after(WEIGHTS, FAMILY, ((0, 0, 1),)), [Ratio(3, 5), Ratio(2, 5), 0])
        self.assertEqual(after(WEIGHTS, FAMILY, ((0, 0, 1), (0, 2, 2), (1, 2, 1))), [0, 1, 0])
        self.assertEqual(after([0, 1, 0], FAMILY, ((1, 2, 1),)), [0, 1, 0])
        self.assertEqual(after([0, Ratio(1, 2), Ratio(1, 2)], FAMILY, ((1, 2, 1),)), [0, Ratio(1, 2), Ratio(1, 2)])

    def test_kinds_of_values(self):
        weights = [0, 1, 0]
        told = after(weights, FAMILY, ())
        self.assertEqual([weight.__class__ for weight in told], [Ratio] * 3)
        told[0] = 7
        self.assertEqual(weights, [0, 1, 0])
        self.assertEqual(after(weights, FAMILY, ()), [0, 1, 0])

    def test_never_seen(self):
        self.raises(NeverSeen, {}, after, WEIGHTS, FAMILY, ((0, 0, 7),))
        self.raises(NeverSeen, {}, after, [1, 0, 0], FAMILY, ((1, 2, 1),))
        self.raises(NeverSeen, {}, after, [Ratio(1, 2), Ratio(1, 2), 0], FAMILY, ((0, 0, 0),))

    def test_every_past(self):
        for family, weights in drawn_families(1, 30):
            for past in all_pasts(list(family), 3):
                fitting = [fraction(weight) if is_fit(watch, past) else Fraction(0)
                           for watch, weight in zip(family, weights)]
                if sum(fitting) == 0:
                    self.raises(NeverSeen, {}, after, weights, family, past)
                else:
                    self.assertEqual(as_fractions(after(weights, family, past)),
                                     [share / sum(fitting) for share in fitting])

    def test_long_weights(self):
        one = Ratio(1, HUGE)
        self.assertEqual(after([1 - one, one, 0], FAMILY, ((1, 2, 1),)), [0, 1, 0])
        self.assertEqual(after([1 - 2 * one, one, one], FAMILY, ((1, 2, 1),)), [0, Ratio(1, 2), Ratio(1, 2)])

    def test_errors_in_order(self):
        self.refuses_bad_weights(lambda weights: after(weights, FAMILY, ((5, 5, 5),)), 3)
        self.refuses_bad_pasts(lambda past: after([0, 0, 1], FAMILY, past))
        self.raises(WrongLength, {"length": 2}, after, [3, -1], FAMILY, ((0, 0, 7), (0, 0, 7)))
        self.raises(BadShares, {}, after, [3, -1, 0], FAMILY, ((0, 0, 7), (0, 0, 7)))
        self.raises(BadPast, {"index": 1}, after, WEIGHTS, FAMILY, ((0, 0, 7), (0, 0, 7)))
        four = ((0, 0, 7), (0, 1, 0), (0, 2, 1), (1, 0, 0))
        self.raises(TooMany, {"name": "looks", "most": 3}, after, WEIGHTS, FAMILY, four)


class SeenChancesTest(Case):

    def test_small(self):
        self.assertEqual(seen_chances(WEIGHTS, FAMILY, (0, 0)), [(0, Ratio(1, 6)), (1, Ratio(5, 6))])
        self.assertEqual(seen_chances(WEIGHTS, FAMILY, (0, 1)), [(0, 1)])
        self.assertEqual(seen_chances([1, 0, 0], FAMILY, (1, 2)), [(5, 1)])
        self.assertEqual(seen_chances([0, 0, 1], FAMILY, (1, 2)), [(1, 1)])

    def test_every_cell(self):
        for family, weights in drawn_families(2, 40):
            for cell in all_cells(family.house):
                told = {}
                for watch, weight in zip(family, weights):
                    seen = watch[cell]
                    told[seen] = told.get(seen, 0) + fraction(weight)
                pairs = seen_chances(weights, family, cell)
                self.assertEqual([(seen, fraction(chance)) for seen, chance in pairs],
                                 [(seen, told[seen]) for seen in sorted(told) if told[seen] > 0])
                for seen, chance in pairs:
                    self.assertEqual((seen.__class__, chance.__class__), (int, Ratio))

    def test_largest(self):
        house = House(24, [("a", 1), ("b", 60)])
        family = Family(house, [Watch(house, [[96 - member] * 24, [member] * 24]) for member in range(8)])
        weights = [Ratio(1, 8)] * 8
        self.assertEqual(seen_chances(weights, family, (0, 23)), [(96 - at, Ratio(1, 8)) for at in range(7, -1, -1)])

    def test_errors_in_order(self):
        self.refuses_bad_weights(lambda weights: seen_chances(weights, FAMILY, (9, 9)), 3)
        for cell in ((-1, 0), (2, 0), (0, -1), (0, 3), (HUGE, 0), (0, -HUGE)):
            self.raises(NoPlace, {}, seen_chances, WEIGHTS, FAMILY, cell)


class MeanLossTest(Case):

    def test_small(self):
        self.assertEqual(mean_loss(WEIGHTS, FAMILY, ()), 0)
        self.assertEqual(mean_loss(WEIGHTS, FAMILY, ((0, 0, 1),)), Ratio(1, 2))
        self.assertEqual(mean_loss(WEIGHTS, FAMILY, ((0, 0, 1), (1, 2, 2))), 3)
        self.assertEqual(mean_loss([0, 0, 1], FAMILY, ((0, 0, 1), (1, 2, 2))), 8)
        self.assertEqual(mean_loss([0, 0, 1], FAMILY, ()).__class__, Ratio)

    def test_every_spread(self):
        for family, weights in drawn_families(3, 15):
            for spread in all_spreads(all_cells(family.house), 2):
                told = sum(fraction(weight) * lost(watch, spread) for watch, weight in zip(family, weights))
                self.assertEqual(fraction(mean_loss(weights, family, spread)), told)

    def test_errors_in_order(self):
        self.refuses_bad_weights(lambda weights: mean_loss(weights, FAMILY, ((5, 5, 5),)), 3)
        self.refuses_bad_spreads(lambda spread: mean_loss(WEIGHTS, FAMILY, spread))
        self.raises(BadShares, {}, mean_loss, [1, 1, -1], FAMILY, ((0, 0, 0),))
        self.raises(BadSpread, {"index": 0}, mean_loss, WEIGHTS, FAMILY, ((0, 0, 0),))


class TogetherTest(Case):

    def test_looks_in_any_order(self):
        compared = 0
        for family, weights in drawn_families(4, 12):
            told = all_pasts(list(family), 2)
            for one in told:
                for two in told:
                    try:
                        whole = after(weights, family, join_pasts(family.house, one, two))
                        first = after(weights, family, one)
                        second = after(first, family, two)
                    except WatchError:
                        continue
                    self.assertEqual(second, whole)
                    compared += 1
        self.assertGreater(compared, 500)

    def test_a_look_changes_no_mean(self):
        for family, weights in drawn_families(5, 12):
            for cell in all_cells(family.house):
                pasts = [((*cell, seen),) for seen, _ in seen_chances(weights, family, cell)]
                for spread in all_spreads(open_cells(family.house, pasts[0]), 2):
                    means = [mean_loss(after(weights, family, past), family, spread) for past in pasts]
                    total = sum(chance * mean for (_, chance), mean in zip(seen_chances(weights, family, cell), means))
                    self.assertEqual(total, mean_loss(weights, family, spread))
