"""Points 11 to 13: layings of a target by tiles."""

import itertools
import random

from tests.checks import HUGE, Case, spent
from watchbeats.errors import BadNumber, EmptyLot, OtherHours, RepeatedHour, TooMany
from watchbeats.layings import Laying, count_layings, lay, layings, starts_of
from watchbeats.lots import Lot


def hours_of(tile, start):
    return {(member + start) % tile.hours for member in tile.members}


def is_laying(target, tiles, parts):
    """Held against point 11: ascending parts, no hour twice, together the target."""
    hours = [hour for tile, start in parts for hour in hours_of(tiles[tile], start)]
    places = [(tile, start) for tile in range(len(tiles)) for start in range(target.hours)]
    return parts == sorted(set(parts)) and set(parts) <= set(places) and sorted(hours) == target.members


def all_layings(target, tiles):
    """All lists of parts that are layings, by going through all sets of parts that fit."""
    places = [(tile, start) for tile in range(len(tiles)) for start in range(target.hours)]
    found = []

    def extend(parts, rest, at):
        if not rest:
            found.append(parts)
        for k in range(at, len(places)):
            tile, start = places[k]
            lot = hours_of(tiles[tile], start)
            if lot <= rest:
                extend(parts + [places[k]], rest - lot, k + 1)

    extend([], set(target.members), 0)
    return found


def cases(seed, many, most):
    chance = random.Random(seed)
    for _ in range(many):
        hours = chance.randint(1, most)
        tiles = [Lot(hours, chance.sample(range(hours), chance.randint(1, min(3, hours))))
                 for _ in range(chance.randint(1, 2))]
        target = Lot(hours, chance.sample(range(hours), chance.randint(0, hours)))
        yield target, tiles


class StartsOfTest(Case):

    def test_starts(self):
        parts = [(0, 2), (0, 5), (1, 0), (1, 2)]
        self.assertEqual(starts_of(parts, 6, 0), Lot(6, [2, 5]))
        self.assertEqual(starts_of(parts, 6, 1), Lot(6, [0, 2]))
        self.assertEqual(starts_of(parts, 6, 2), Lot(6, []))
        self.assertEqual(starts_of([], 360, 0), Lot(360, []))
        self.assertEqual(parts, [(0, 2), (0, 5), (1, 0), (1, 2)])

    def test_errors_of_lot(self):
        for hours in (0, 361, HUGE):
            self.raises(BadNumber, {"name": "hours", "value": hours}, starts_of, [(0, 1), (0, 1)], hours, 0)
        self.raises(RepeatedHour, {"hour": 1}, starts_of, [(0, 1), (1, 4), (0, 4)], 3, 0)

    def test_two_crews_meet_each_hour_once(self):
        for target, tiles in cases(1, 200, 10):
            for parts in itertools.islice(layings(target, tiles), 3):
                met = [member for index, tile in enumerate(tiles)
                       for member in (tile + starts_of(parts, target.hours, index)).members]
                self.assertEqual(sorted(met), target.members)


class LayTest(Case):

    def check_tree(self, tree, rest, tiles):
        """Walks a whole tree of cases and holds it against point 12; tells the number of cases."""
        self.assertIs(tree.__class__, tuple)
        hour, branches = tree
        self.assertIs(hour.__class__, int)
        self.assertIs(branches.__class__, tuple)
        self.assertIn(hour, rest)
        hours = tiles[0].hours
        parts = [(i, (hour - a) % hours) for i in range(len(tiles)) for a in tiles[i].members]
        self.assertEqual(len(branches), len(parts))
        many = 1
        for (tile, start), branch in zip(parts, branches):
            lot = hours_of(tiles[tile], start)
            self.assertIn(hour, lot)
            if lot <= rest:
                self.assertTrue(rest - lot)
                many += self.check_tree(branch, rest - lot, tiles)
            else:
                self.assertIsNone(branch)
        return many

    def check(self, target, tiles):
        """Tells True if there is a laying, and checks what lay returns."""
        laying = lay(target, tiles)
        self.assertIs(laying.__class__, Laying)
        if laying.parts is None:
            self.check_tree(laying.tree, set(target.members), tiles)
            return False
        self.assertIsNone(laying.tree)
        self.assertTrue(is_laying(target, tiles, laying.parts))
        return True

    def test_examples(self):
        self.assertIs(lay(Lot(6, [0, 1, 3]), [Lot(6, [0, 2])]).parts, None)
        self.assertEqual(lay(Lot(6, [0, 1, 2, 3]), [Lot(6, [0, 2])]).parts, [(0, 0), (0, 1)])

    def test_all_targets_and_tiles_of_a_small_ring(self):
        lots = [Lot(5, [h for h in range(5) if bits >> h & 1]) for bits in range(32)]
        for target, one in itertools.product(lots, lots[1:]):
            self.assertIs(self.check(target, [one]), bool(all_layings(target, [one])))
            for two in lots[1::5]:
                self.assertIs(self.check(target, [one, two]), bool(all_layings(target, [one, two])))

    def test_drawn_cases(self):
        for target, tiles in cases(2, 400, 9):
            self.assertIs(self.check(target, tiles), bool(all_layings(target, tiles)))

    def test_the_greatest_ring(self):
        chance = random.Random(3)
        told = [0, 0]
        for _ in range(150):
            tiles = [Lot(12, chance.sample(range(12), chance.randint(2, 3))) for _ in range(2)]
            target = Lot(12, chance.sample(range(12), chance.choice([8, 10, 11, 12])))
            told[self.check(target, tiles)] += 1
        self.assertGreater(min(told), 10)

    def test_empty_target(self):
        laying = lay(Lot(12, []), [Lot(12, [3])])
        self.assertEqual((laying.parts, laying.tree), ([], None))

    def test_two_equal_tiles(self):
        tile = Lot(6, [0, 3])
        self.assertIs(self.check(Lot.full(6), [tile, tile]), True)
        self.assertIs(self.check(Lot(6, [0, 1]), [tile, tile]), False)
        hour, branches = lay(Lot(6, [0, 1]), [tile, tile]).tree
        self.assertEqual(branches, (None, None, None, None))
        self.assertIn(hour, (0, 1))

    def test_errors(self):
        good, empty, other = Lot(12, [0]), Lot(12, []), Lot(6, [])
        for call in (lay, lambda *told: spent(layings(*told)), count_layings):
            self.raises(BadNumber, {"name": "hours", "value": 13}, call, Lot(13, []), [])
            self.raises(BadNumber, {"name": "tiles", "value": 0}, call, good, [])
            self.raises(TooMany, {"name": "tiles", "most": 2}, call, good, [other, empty, good])
            self.raises(OtherHours, {}, call, good, [other, empty])
            self.raises(EmptyLot, {}, call, good, [empty, other])
            self.raises(OtherHours, {}, call, good, [good, other])
            self.raises(EmptyLot, {}, call, empty, [good, empty])

    def test_lists_stay(self):
        tiles = [Lot(6, [0, 3]), Lot(6, [1])]
        lay(Lot.full(6), tiles)
        spent(layings(Lot.full(6), tiles))
        count_layings(Lot.full(6), tiles)
        self.assertEqual(tiles, [Lot(6, [0, 3]), Lot(6, [1])])


class LayingsTest(Case):

    def test_all_in_order(self):
        for target, tiles in cases(4, 300, 8):
            found = list(layings(target, tiles))
            self.assertEqual(found, all_layings(target, tiles))
            self.assertEqual(found, sorted(found))
            self.assertEqual(count_layings(target, tiles), len(found))
            self.assertTrue(all(is_laying(target, tiles, parts) for parts in found))

    def test_empty_target(self):
        self.assertEqual(list(layings(Lot(5, []), [Lot(5, [1, 2])])), [[]])
        self.assertEqual(count_layings(Lot(5, []), [Lot(5, [1, 2]), Lot(5, [0])]), 1)

    def test_equal_lots_are_different_parts(self):
        halves = Lot(4, [0, 2])
        self.assertEqual(list(layings(halves, [halves])), [[(0, 0)], [(0, 2)]])
        self.assertEqual(list(layings(halves, [halves, halves])), [[(0, 0)], [(0, 2)], [(1, 0)], [(1, 2)]])

    def test_the_greatest_ring(self):
        one, pair = Lot(12, [0]), Lot(12, [0, 6])
        self.assertEqual(count_layings(Lot.full(12), [one, one]), 2 ** 12)
        self.assertEqual(count_layings(Lot.full(12), [pair, pair]), 4 ** 6)
        self.assertEqual(count_layings(Lot.full(12), [Lot(12, [0, 1])]), 2)
        self.assertEqual(count_layings(Lot.full(12), [one, Lot(12, [5, 6])]), 322)
        found = list(layings(Lot.full(12), [one, one]))
        self.assertEqual(found, sorted(found))

    def test_new_lists(self):
        first = []
        for parts in layings(Lot.full(2), [Lot(2, [0])]):
            first.append(parts)
            parts.append((5, 5))
        self.assertEqual(first, [[(0, 0), (0, 1), (5, 5)]])

    def test_errors_when_the_iteration_begins(self):
        begun = layings(Lot(13, []), [])
        self.raises(BadNumber, {"name": "hours", "value": 13}, next, begun)
