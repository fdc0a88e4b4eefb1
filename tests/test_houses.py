"""Point 17: houses."""

from tests.checks import HUGE, Case
from watchbeats.errors import BadName, BadNumber, RepeatedName, TooMany, UnknownName
from watchbeats.houses import House

GATES = [("a", 0), ("west", 60), ("abcdefgh", 7), ("z", 1)]


class HouseTest(Case):

    def test_attributes(self):
        house = House(12, GATES)
        self.assertEqual(house.hours, 12)
        self.assertEqual(house.names, ("a", "west", "abcdefgh", "z"))
        self.assertEqual(house.stakes, (0, 60, 7, 1))
        self.assertIs(house.names.__class__, tuple)
        self.assertIs(house.stakes.__class__, tuple)
        self.assertEqual(len(house), 4)
        self.assertEqual(len(House(1, [("a", 1)])), 1)

    def test_class_values(self):
        self.assertEqual((House.MOST_HOURS, House.MOST_GATES, House.MOST_CELLS, House.MOST_STAKE), (24, 4, 48, 60))

    def test_gate(self):
        house = House(12, GATES)
        self.assertEqual([house.gate(name) for name in house.names], [0, 1, 2, 3])
        for name in ("", "b", "A", "wes", "west "):
            self.raises(UnknownName, {"name": name}, house.gate, name)

    def test_hours(self):
        self.assertEqual(House(1, GATES).hours, 1)
        self.assertEqual(House(24, GATES[:2]).hours, 24)
        for hours in (0, 25, -1, HUGE, -HUGE):
            self.raises(BadNumber, {"name": "hours", "value": hours}, House, hours, [])

    def test_number_of_gates(self):
        self.raises(BadNumber, {"name": "gates", "value": 0}, House, 24, [])
        self.raises(TooMany, {"name": "gates", "most": 4}, House, 24, [("", -1)] * 5)

    def test_names(self):
        for name in ("", "abcdefghi", "A", "a1", "a b", " a", "a-b", "~"):
            self.raises(BadName, {"name": name}, House, 24, [("a", 1), (name, -1), ("b", 61)])
        self.raises(RepeatedName, {"name": "a"}, House, 24, [("a", 1), ("b", 1), ("a", -1), ("", 1)])

    def test_stakes(self):
        for stake in (-1, 61, HUGE, -HUGE):
            self.raises(BadNumber, {"name": "stake", "value": stake}, House, 24, [("a", 1), ("b", stake), ("a", 1)])

    def test_number_of_cells(self):
        for hours, many in ((12, 4), (16, 3), (24, 2)):
            self.assertEqual(len(list(House(hours, GATES[:many]).cells())), 48)
        for hours, many in ((13, 4), (17, 3), (24, 3), (24, 4)):
            self.raises(TooMany, {"name": "cells", "most": 48}, House, hours, GATES[:many])
        self.raises(RepeatedName, {"name": "z"}, House, 24, [GATES[3]] * 3)

    def test_equality(self):
        house = House(12, GATES)
        self.assertIs(house == House(12, list(GATES)), True)
        self.assertIs(house != House(12, list(GATES)), False)
        others = [House(11, GATES), House(12, GATES[:3]), House(12, GATES[::-1]), House(12, GATES[:3] + [("z", 2)]),
                  House(12, GATES[:3] + [("y", 1)]), GATES, None, 12]
        for other in others:
            self.assertIs(house == other, False)
            self.assertIs(house != other, True)

    def test_cells(self):
        self.assertEqual(list(House(3, GATES[:2]).cells()), [(0, 0), (0, 1), (0, 2), (1, 0), (1, 1), (1, 2)])
        cells = list(House(12, GATES).cells())
        self.assertEqual(cells, sorted({(gate, hour) for gate in range(4) for hour in range(12)}))

    def test_list_is_copied(self):
        gates = list(GATES)
        house = House(12, gates)
        gates.pop()
        self.assertEqual((len(house), gates), (4, GATES[:3]))
