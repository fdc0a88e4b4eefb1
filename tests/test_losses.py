"""Point 25: losses."""

from tests.brute import all_cells, all_spreads, chances, drawn_house, drawn_watch, lost
from tests.checks import HUGE, Case
from watchbeats.errors import BadSpread, TooMany
from watchbeats.houses import House
from watchbeats.losses import loss
from watchbeats.watches import Watch

HOUSE = House(3, [("east", 3), ("west", 5)])
WATCH = Watch(HOUSE, [[1, 0, 2], [0, 96, 5]])


class LossTest(Case):

    def test_tries_and_strengths(self):
        self.assertEqual([loss(WATCH, ((0, 2, tries),)) for tries in range(1, 7)], [0, 0, 3, 3, 3, 3])
        self.assertEqual([loss(WATCH, ((1, 2, tries),)) for tries in range(1, 7)], [0, 0, 0, 0, 0, 5])
        self.assertEqual([loss(WATCH, ((1, 1, 6),)), loss(WATCH, ((1, 0, 1),)), loss(WATCH, ())], [0, 5, 0])

    def test_sums(self):
        self.assertEqual(loss(WATCH, ((0, 0, 1), (0, 1, 1), (1, 0, 1))), 8)
        self.assertEqual(loss(WATCH, ((0, 0, 2), (0, 1, 1), (1, 0, 1), (1, 1, 1))), 11)

    def test_drawn_watches(self):
        chance = chances(1)
        for _ in range(20):
            watch = drawn_watch(chance, drawn_house(chance, chance.randint(1, 3), chance.randint(1, 2)))
            for spread in all_spreads(all_cells(watch.house), 3):
                self.assertEqual(loss(watch, spread), lost(watch, spread))
                self.assertIs(loss(watch, spread).__class__, int)

    def test_errors(self):
        self.raises(BadSpread, {"index": 0}, loss, WATCH, ((2, 0, 1),))
        self.raises(BadSpread, {"index": 0}, loss, WATCH, ((0, 3, 1),))
        self.raises(BadSpread, {"index": 1}, loss, WATCH, ((0, 0, 7), (0, 1, 0)))
        self.raises(BadSpread, {"index": 1}, loss, WATCH, ((1, 1, 1), (1, 1, 1)))
        self.raises(TooMany, {"name": "tries", "most": 6}, loss, WATCH, ((0, 0, 3), (0, 1, 4)))
        self.raises(TooMany, {"name": "tries", "most": 6}, loss, WATCH, ((0, 0, HUGE),))
