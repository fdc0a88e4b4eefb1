"""Point 27: guards posted at gates."""

import inspect
import itertools
import math

from tests.checks import HUGE, Case, spent
from watchbeats.errors import BadNumber
from watchbeats.houses import House
from watchbeats.posts import count_postings, postings
from watchbeats.watches import Watch

GATES = [("a", 1), ("b", 2), ("c", 3), ("d", 4)]


class PostsTest(Case):

    def test_all_in_order(self):
        for gates in range(1, 5):
            house = House(1, GATES[:gates])
            for guards in range(13):
                told = [strengths for strengths in itertools.product(range(guards + 1), repeat=gates)
                        if sum(strengths) == guards]
                posted = list(postings(house, guards))
                self.assertEqual([tuple(watch[gate, 0] for gate in range(gates)) for watch in posted], told)
                self.assertEqual(len(posted), count_postings(gates, guards))

    def test_watches(self):
        house = House(1, GATES[:2])
        self.assertEqual(list(postings(house, 1)), [Watch(house, [[0], [1]]), Watch(house, [[1], [0]])])
        self.assertEqual(list(postings(house, 0)), [Watch.empty(house)])

    def test_errors_begin_with_the_iteration(self):
        self.assertTrue(inspect.isgenerator(postings(House(2, GATES), 13)))
        for hours in (2, 12):
            told = {"name": "hours", "value": hours}
            self.raises(BadNumber, told, lambda: spent(postings(House(hours, GATES), -1)))
        for guards in (-1, 13, HUGE, -HUGE):
            told = {"name": "guards", "value": guards}
            self.raises(BadNumber, told, lambda: spent(postings(House(1, GATES), guards)))

    def test_counts(self):
        self.assertEqual([count_postings(1, guards) for guards in (0, 1, 1000)], [1, 1, 1])
        self.assertEqual([count_postings(gates, 1) for gates in (1, 2, 1000)], [1, 2, 1000])
        self.assertEqual([count_postings(3, guards) for guards in range(5)], [1, 3, 6, 10, 15])
        self.assertEqual(count_postings(1000, 1000), math.comb(1999, 999))
        self.assertEqual(count_postings(1000, 0), 1)

    def test_count_errors(self):
        for gates in (0, -1, 1001, HUGE):
            self.raises(BadNumber, {"name": "gates", "value": gates}, count_postings, gates, -1)
        for guards in (-1, 1001, HUGE):
            self.raises(BadNumber, {"name": "guards", "value": guards}, count_postings, 1000, guards)
