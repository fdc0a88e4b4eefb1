"""Point 26: the spread that gains most."""

from tests.brute import all_cells, all_spreads, chances, drawn_house, drawn_watch, fraction, lost
from tests.checks import HUGE, Case
from watchbeats.best import Best, best_spread
from watchbeats.errors import BadNumber, NoPlace, OtherHouse, TooMany, WrongLength
from watchbeats.houses import House
from watchbeats.losses import loss
from watchbeats.ratio import Ratio
from watchbeats.watches import Watch

HOUSE = House(2, [("east", 3), ("west", 5)])
ONE = Watch(HOUSE, [[0, 1], [2, 0]])
TWO = Watch(HOUSE, [[1, 1], [0, 3]])


def drawn_weight(chance):
    return chance.choice([0, 1, 2, Ratio(1, 3), Ratio(5, 2), Ratio(chance.randint(0, 9), chance.randint(1, 9))])


class BestTest(Case):

    def check(self, watches, weights, tries, known):
        """Holds all that a Best tells against every spread."""
        house = watches[0].house
        best = best_spread(watches, weights, tries=tries, known=known)
        self.assertIs(best.__class__, Best)
        cells = [cell for cell in all_cells(house) if cell not in known]
        self.assertEqual(best.open_cells, cells)
        self.assertIs(best.worth.__class__, Ratio)
        told = all_spreads(cells, tries)
        sums = [sum(fraction(w) * lost(watch, spread) for w, watch in zip(weights, watches)) for spread in told]
        self.assertEqual(fraction(best.worth), max(sums))
        self.assertEqual(sums[told.index(best.spread)], max(sums))
        for i, (gate, hour) in enumerate(cells):
            for x in range(tries + 1):
                below = sum(fraction(w) for w, watch in zip(weights, watches) if watch[gate, hour] < x)
                self.assertEqual(fraction(best.gain(i, x)), house.stakes[gate] * below)
        for i in range(len(cells) + 1):
            for left in range(tries + 1):
                most = best.most_from(i, left)
                self.assertIs(most.__class__, Ratio)
                if i == len(cells):
                    self.assertEqual(most, 0)
                else:
                    self.assertEqual(fraction(most), max(
                        fraction(best.gain(i, x)) + fraction(best.most_from(i + 1, left - x))
                        for x in range(left + 1)))
        self.assertEqual(best.most_from(0, tries), best.worth)
        return best

    def test_one_watch(self):
        best = self.check([ONE], [1], 1, ())
        self.assertEqual((best.worth, best.spread), (5, ((1, 1, 1),)))
        best = self.check([ONE], [1], 4, ())
        self.assertEqual((best.worth, best.spread), (11, ((0, 0, 1), (0, 1, 2), (1, 1, 1))))

    def test_two_watches(self):
        best = self.check([ONE, TWO], [Ratio(1, 4), Ratio(3, 4)], 1, ())
        self.assertEqual((str(best.worth), best.spread), ("15/4", ((1, 0, 1),)))
        best = self.check([ONE, TWO], [Ratio(1, 4), Ratio(3, 4)], 1, ((1, 0),))
        self.assertEqual((str(best.worth), best.spread), ("5/4", ((1, 1, 1),)))

    def test_weights_need_not_add_up(self):
        self.assertEqual(best_spread([ONE, TWO], [7, 3], tries=2).worth, 56)
        self.assertEqual(self.check([ONE, TWO], [0, 0], 3, ()).worth, 0)
        self.assertEqual(self.check([ONE, TWO], [Ratio(5, 3), 0], 2, ()).worth, Ratio(40, 3))

    def test_drawn_watches(self):
        chance = chances(1)
        for _ in range(60):
            house = drawn_house(chance, chance.randint(1, 3), chance.randint(1, 2))
            watches = [drawn_watch(chance, house) for _ in range(chance.randint(1, 5))]
            known = tuple(chance.choice(all_cells(house)) for _ in range(chance.randint(0, 3)))
            self.check(watches, [drawn_weight(chance) for _ in watches], chance.randint(0, 4), known)

    def test_six_tries(self):
        chance = chances(2)
        house = House(3, [("east", 3), ("west", 5)])
        watches = [drawn_watch(chance, house, most=6) for _ in range(4)]
        self.check(watches, [1, 2, Ratio(1, 2), 0], 6, ())

    def test_no_tries_and_no_open_cell(self):
        best = self.check([ONE], [1], 0, ())
        self.assertEqual((best.worth, best.spread, best.gain(3, 0)), (0, (), 0))
        best = self.check([ONE], [1], 3, tuple(all_cells(HOUSE)))
        self.assertEqual((best.worth, best.spread, best.open_cells), (0, (), []))

    def test_stakes_of_nothing(self):
        watch = Watch(House(2, [("a", 0)]), [[0, 0]])
        self.assertEqual(self.check([watch], [1], 3, ()).worth, 0)

    def test_most_watches_and_cells(self):
        chance = chances(3)
        house = House(24, [("a", 60), ("b", 59)])
        watches = [drawn_watch(chance, house, most=6) for _ in range(24)]
        weights = [Ratio(HUGE - at, HUGE - 1000 - at * at) for at in range(24)]
        best = best_spread(watches, weights, tries=6, known=((0, 0), (1, 23)))
        self.assertEqual(len(best.open_cells), 46)
        total = sum(fraction(w) * loss(watch, best.spread) for w, watch in zip(weights, watches))
        self.assertEqual(fraction(best.worth), total)
        for i in (0, 20, 45):
            told = max(fraction(best.gain(i, x)) + fraction(best.most_from(i + 1, 6 - x)) for x in range(7))
            self.assertEqual(fraction(best.most_from(i, 6)), told)

    def test_defaults(self):
        best = best_spread([ONE], [1])
        self.assertEqual((best.worth, len(best.open_cells)), (5, 4))
        self.raises(NoPlace, {}, best.gain, 0, 2)

    def test_gain_at_its_ends(self):
        best = best_spread([ONE], [1], tries=2, known=((0, 0),))
        self.assertEqual([best.gain(0, 0), best.gain(2, 2), best.gain(0, 2)], [0, 5, 3])
        for i, x in ((-1, 0), (3, 0), (HUGE, 0), (0, -1), (0, 3), (2, HUGE), (-1, -1)):
            self.raises(NoPlace, {}, best.gain, i, x)

    def test_most_from_at_its_ends(self):
        best = best_spread([ONE], [1], tries=2, known=((0, 0),))
        self.assertEqual([best.most_from(0, 0), best.most_from(3, 0), best.most_from(3, 2), best.most_from(0, 2)],
                         [0, 0, 0, 5])
        for i, left in ((-1, 0), (4, 0), (HUGE, 0), (0, -1), (0, 3), (3, 3), (0, HUGE)):
            self.raises(NoPlace, {}, best.most_from, i, left)

    def test_errors_in_order(self):
        other = Watch.empty(House(2, [("east", 3), ("west", 6)]))
        bad = {"tries": 7, "known": ((9, 9),)}
        self.raises(BadNumber, {"name": "watches", "value": 0}, best_spread, [], [-1], **bad)
        self.raises(TooMany, {"name": "watches", "most": 24}, best_spread, [ONE] * 24 + [other], [-1], **bad)
        self.raises(OtherHouse, {}, best_spread, [ONE, ONE, other], [-1], **bad)
        self.raises(WrongLength, {"length": 1}, best_spread, [ONE, TWO], [-1], **bad)
        self.raises(WrongLength, {"length": 3}, best_spread, [ONE, TWO], [1, 1, 1], **bad)
        self.raises(WrongLength, {"length": 0}, best_spread, [ONE], [], **bad)
        self.raises(BadNumber, {"name": "weight", "value": -1}, best_spread, [ONE, TWO, ONE], [0, -1, -2], **bad)
        self.raises(BadNumber, {"name": "weight", "value": Ratio(-1, 9)}, best_spread, [ONE], [Ratio(-1, 9)], **bad)
        for tries in (-1, 7, HUGE):
            told = {"name": "tries", "value": tries}
            self.raises(BadNumber, told, best_spread, [ONE], [1], tries=tries, known=((9, 9),))
        for cell in ((2, 0), (0, 2), (-1, 0), (0, -1)):
            self.raises(NoPlace, {}, best_spread, [ONE], [1], tries=6, known=((0, 0), cell))
        self.assertEqual(best_spread([ONE] * 24, [1] * 24).worth, 120)

    def test_lists_stay(self):
        watches, weights = [ONE, TWO], [1, Ratio(1, 2)]
        best = best_spread(watches, weights, tries=2)
        weights[0] = 9
        watches.pop()
        self.assertEqual((best.worth, best.gain(0, 2)), (8, Ratio(9, 2)))
