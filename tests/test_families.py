"""Point 29: families of watches."""

from tests.brute import chances, drawn_house, drawn_watch
from tests.checks import HUGE, Case
from watchbeats.errors import BadNumber, NoPlace, OtherHouse, TooMany
from watchbeats.families import Family
from watchbeats.houses import House
from watchbeats.watches import Watch

GATES = [("east", 3), ("west", 5)]
HOUSE = House(2, GATES)
ONE = Watch(HOUSE, [[1, 0], [0, 0]])
TWO = Watch(HOUSE, [[0, 1], [0, 0]])
THREE = Watch(HOUSE, [[2, 2], [0, 96]])
OTHER = Watch.empty(House(2, [("east", 3), ("west", 6)]))


class FamilyTest(Case):

    def test_members(self):
        family = Family(HOUSE, [ONE, THREE, ONE])
        self.assertEqual((family.house, len(family), list(family)), (HOUSE, 3, [ONE, THREE, ONE]))
        self.assertEqual([family[0], family[1], family[2]], [ONE, THREE, ONE])
        self.assertEqual([watch for watch in family], [ONE, THREE, ONE])
        for at in (-1, -3, 3, HUGE):
            self.raises(NoPlace, {}, lambda: family[at])

    def test_number_of_members(self):
        self.assertEqual([len(Family(HOUSE, [ONE] * many)) for many in (1, 8)], [1, 8])
        self.assertEqual(Family.MOST, 8)
        self.raises(BadNumber, {"name": "watches", "value": 0}, Family, HOUSE, [])
        self.raises(TooMany, {"name": "watches", "most": 8}, Family, HOUSE, [ONE] * 9)

    def test_other_house(self):
        self.raises(OtherHouse, {}, Family, HOUSE, [ONE, OTHER])
        self.raises(OtherHouse, {}, Family, HOUSE, [Watch.empty(House(3, GATES))])
        self.raises(TooMany, {"name": "watches", "most": 8}, Family, HOUSE, [ONE] * 8 + [OTHER])
        self.assertEqual(len(Family(House(2, GATES), [ONE])), 1)

    def test_contains(self):
        family = Family(HOUSE, [ONE, THREE])
        self.assertIs(Watch(HOUSE, [[1, 0], [0, 0]]) in family, True)
        self.assertIs(TWO in family, False)
        self.assertIs(OTHER in family, False)
        self.assertIs(THREE in family, True)

    def test_equality(self):
        family = Family(HOUSE, [ONE, TWO])
        self.assertIs(family == Family(House(2, GATES), [ONE, TWO << 2]), True)
        self.assertIs(family != Family(HOUSE, [ONE, TWO]), False)
        for other in (Family(HOUSE, [TWO, ONE]), Family(HOUSE, [ONE]), Family(HOUSE, [ONE, TWO, TWO]), [ONE, TWO],
                      ONE, None):
            self.assertIs(family == other, False)
            self.assertIs(family != other, True)
        empty = House(2, [("east", 3), ("west", 6)])
        self.assertIs(Family(HOUSE, [Watch.empty(HOUSE)]) == Family(empty, [Watch.empty(empty)]), False)

    def test_sum(self):
        family = Family(HOUSE, [ONE, TWO]) + Family(HOUSE, [ONE, THREE])
        self.assertEqual((family.house, list(family)), (HOUSE, [ONE, TWO, ONE, THREE]))
        self.assertEqual(len(Family(HOUSE, [ONE] * 7) + Family(HOUSE, [TWO])), 8)

    def test_sum_errors(self):
        family = Family(HOUSE, [ONE] * 7)
        self.raises(TooMany, {"name": "watches", "most": 8}, lambda: family + Family(HOUSE, [TWO, TWO]))
        self.raises(OtherHouse, {}, lambda: family + Family(OTHER.house, [OTHER]))
        self.raises(OtherHouse, {}, lambda: family + Family(OTHER.house, [OTHER] * 2))

    def test_turn(self):
        chance = chances(1)
        for _ in range(20):
            house = drawn_house(chance, chance.randint(1, 12), chance.randint(1, 2))
            watches = [drawn_watch(chance, house) for _ in range(chance.randint(1, 8))]
            for by in (0, 1, -1, HUGE, -HUGE):
                self.assertEqual(list(Family(house, watches) << by), [watch << by for watch in watches])

    def test_turns(self):
        house = House(12, GATES)
        for row in ([1] * 12, [1, 0] * 6, [1, 0, 2] * 4, [1, 0, 0, 0] * 3, [1, 2, 0, 0, 0, 0] * 2):
            watch = Watch(house, [[0] * 12, row])
            family = Family.turns(watch)
            self.assertEqual(list(family), [watch << by for by in range(watch.step)])
            self.assertIs(family.goes_round, True)
            self.assertEqual(len(family.kinds()), watch.step)
        self.assertEqual(Family.turns(ONE), Family(HOUSE, [ONE, TWO]))
        eight = Watch(House(8, GATES), [[1] + [0] * 7, [0] * 8])
        self.assertEqual(len(Family.turns(eight)), 8)
        self.assertEqual(len(Family.turns(Watch(House(1, GATES), [[1], [2]]))), 1)
        self.raises(TooMany, {"name": "watches", "most": 8}, Family.turns,
                    Watch(House(9, GATES), [[1] + [0] * 8, [0] * 9]))

    def test_goes_round(self):
        self.assertIs(Family(HOUSE, [ONE]).goes_round, False)
        self.assertIs(Family(HOUSE, [ONE, THREE, TWO]).goes_round, False)
        self.assertIs(Family(HOUSE, [ONE, THREE, TWO, THREE << 1]).goes_round, True)
        self.assertIs(Family(HOUSE, [TWO, ONE, TWO]).goes_round, True)
        self.assertIs(Family(HOUSE, [Watch.empty(HOUSE)]).goes_round, True)
        three = Watch(House(3, GATES), [[1, 0, 0], [0, 0, 0]])
        self.assertIs(Family(three.house, [three, three << 1]).goes_round, False)

    def test_kinds(self):
        self.assertEqual(Family(HOUSE, [ONE, TWO, ONE, THREE, TWO, ONE]).kinds(), [[0, 2, 5], [1, 4], [3]])
        self.assertEqual(Family(HOUSE, [ONE] * 8).kinds(), [list(range(8))])
        self.assertEqual(Family(HOUSE, [THREE]).kinds(), [[0]])
        self.assertEqual(Family(HOUSE, [THREE, TWO << 1, ONE]).kinds(), [[0], [1, 2]])

    def test_lists(self):
        watches = [ONE, TWO]
        family = Family(HOUSE, watches)
        watches.append(THREE)
        family.kinds()[0].append(7)
        family.kinds().clear()
        self.assertEqual((list(family), family.kinds()), ([ONE, TWO], [[0], [1]]))
        self.assertEqual(watches, [ONE, TWO, THREE])
