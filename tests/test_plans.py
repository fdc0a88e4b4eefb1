"""Point 20, and what point 22 says of plans: crews put together."""

from tests.brute import chances
from tests.checks import HUGE, Case
from watchbeats.beats import Beat
from watchbeats.crews import Crew
from watchbeats.errors import NoPlace, OtherHouse, TooMany
from watchbeats.houses import House
from watchbeats.lots import Lot
from watchbeats.plans import Plan
from watchbeats.watches import Watch

GATES = [("east", 3), ("west", 5)]
HOUSE = House(4, GATES)
ONE = Crew(Beat(HOUSE, [0, 0, 1, -1]), Lot(4, [0, 2]))
TWO = Crew(Beat(HOUSE, [1, -1, -1, -1]), Lot(4, [1]))


def drawn_plans(seed, many=40):
    chance = chances(seed)
    for _ in range(many):
        hours = chance.randint(1, 12)
        house = House(hours, GATES)
        crews = [Crew(Beat(house, [chance.randint(-1, 1) for _ in range(hours)]),
                      Lot(hours, chance.sample(range(hours), chance.randint(0, min(3, hours)))))
                 for _ in range(chance.randint(0, 4))]
        yield Plan(house, *crews)


def posted(crew, cell):
    """How many guards of a crew are at a cell."""
    gate, hour = cell
    return sum(crew.beat[hour - start] == gate for start in crew.starts.members)


class PlanTest(Case):

    def test_attributes(self):
        plan = Plan(HOUSE, ONE, TWO)
        self.assertEqual((plan.house, plan.crews, plan.guards), (HOUSE, (ONE, TWO), 3))
        self.assertIs(plan.crews.__class__, tuple)

    def test_without_crews(self):
        plan = Plan(HOUSE)
        self.assertEqual((plan.crews, plan.guards, plan.watch()), ((), 0, Watch.empty(HOUSE)))
        self.assertEqual(plan << 3, plan)
        self.assertEqual(plan + plan, plan)
        for call in (plan.without, plan.sole):
            self.raises(NoPlace, {}, call, 0)

    def test_number_of_crews(self):
        plan = Plan(HOUSE, ONE, ONE, TWO, ONE)
        self.assertEqual((len(plan.crews), plan.guards), (4, 7))
        self.raises(TooMany, {"name": "crews", "most": 4}, Plan, HOUSE, ONE, ONE, ONE, ONE, TWO)

    def test_other_house(self):
        other = House(4, [("east", 3), ("west", 6)])
        strange = Crew(Beat(other, [0] * 4), Lot(4, []))
        self.raises(OtherHouse, {}, Plan, HOUSE, strange)
        self.raises(OtherHouse, {}, Plan, HOUSE, ONE, TWO, ONE, strange)
        self.raises(OtherHouse, {}, Plan, other, ONE)
        self.raises(TooMany, {"name": "crews", "most": 4}, Plan, HOUSE, strange, ONE, ONE, ONE, TWO)
        self.assertEqual(Plan(House(4, GATES), ONE).house, HOUSE)

    def test_watch(self):
        self.assertEqual(Plan(HOUSE, ONE).watch().rows, [[1, 1, 1, 1], [1, 0, 1, 0]])
        self.assertEqual(Plan(HOUSE, ONE, TWO, ONE).watch().rows, [[2, 2, 2, 2], [2, 1, 2, 0]])
        for plan in drawn_plans(1):
            watch = plan.watch()
            self.assertEqual(watch.house, plan.house)
            for gate, hour in plan.house.cells():
                self.assertEqual(watch[gate, hour], sum(posted(crew, (gate, hour)) for crew in plan.crews))

    def test_greatest_watch(self):
        house = House(24, [("a", 1)])
        crew = Crew(Beat(house, [0] * 24), Lot.full(24))
        plan = Plan(house, crew, crew, crew, crew)
        self.assertEqual((plan.guards, plan.watch().rows), (96, [[96] * 24]))

    def test_without(self):
        plan = Plan(HOUSE, ONE, TWO, ONE << 1)
        self.assertEqual([plan.without(0), plan.without(1), plan.without(2)],
                         [Plan(HOUSE, TWO, ONE << 1), Plan(HOUSE, ONE, ONE << 1), Plan(HOUSE, ONE, TWO)])
        self.assertEqual(Plan(HOUSE, ONE).without(0), Plan(HOUSE))
        self.assertEqual(len(plan.crews), 3)

    def test_sole(self):
        plan = Plan(HOUSE, ONE, TWO)
        self.assertEqual([plan.sole(0), plan.sole(1)], [[(0, 0), (0, 1), (0, 2), (0, 3), (1, 0), (1, 2)], [(1, 1)]])
        # Two guards of one crew alone at a cell, and two crews at a cell, which neither has for itself.
        crew = Crew(Beat(HOUSE, [0, 0, -1, -1]), Lot(4, [0, 1]))
        plan = Plan(HOUSE, crew, Crew(Beat(HOUSE, [0, -1, -1, -1]), Lot(4, [0])))
        self.assertEqual([plan.sole(0), plan.sole(1)], [[(0, 1), (0, 2)], []])
        for plan in drawn_plans(2):
            for index, crew in enumerate(plan.crews):
                others = plan.crews[:index] + plan.crews[index + 1:]
                told = [cell for cell in plan.house.cells()
                        if posted(crew, cell) >= 1 and all(posted(other, cell) == 0 for other in others)]
                self.assertEqual(plan.sole(index), told)

    def test_no_such_crew(self):
        plan = Plan(HOUSE, ONE, TWO)
        for index in (-1, -2, 2, HUGE, -HUGE):
            self.raises(NoPlace, {}, plan.without, index)
            self.raises(NoPlace, {}, plan.sole, index)

    def test_turn(self):
        for plan in drawn_plans(3, many=20):
            for by in (0, 1, -1, 5, HUGE, -HUGE):
                turned = plan << by
                self.assertEqual(turned.crews, tuple(crew << by for crew in plan.crews))
                self.assertEqual(turned.watch(), plan.watch() << by)

    def test_sum(self):
        plan = Plan(HOUSE, ONE, TWO) + Plan(HOUSE, TWO, TWO)
        self.assertEqual((plan.house, plan.crews), (HOUSE, (ONE, TWO, TWO, TWO)))
        self.assertEqual(plan.watch(), Plan(HOUSE, ONE, TWO).watch() + Plan(HOUSE, TWO, TWO).watch())

    def test_sum_errors(self):
        two = Plan(HOUSE, ONE, TWO)
        self.raises(TooMany, {"name": "crews", "most": 4}, lambda: two + Plan(HOUSE, ONE, ONE, ONE))
        for house in (House(4, [("east", 3)]), House(3, GATES), House(4, [("east", 3), ("west", 4)])):
            crew = Crew(Beat(house, [0] * house.hours), Lot(house.hours, []))
            self.raises(OtherHouse, {}, lambda: two + Plan(house))
            self.raises(OtherHouse, {}, lambda: Plan(HOUSE) + Plan(house, crew))
            self.raises(OtherHouse, {}, lambda: two + Plan(house, crew, crew, crew))

    def test_equality(self):
        plan = Plan(HOUSE, ONE, TWO)
        self.assertIs(plan == Plan(House(4, GATES), ONE << 4, TWO), True)
        self.assertIs(plan != Plan(HOUSE, ONE, TWO), False)
        self.assertIs(Plan(HOUSE) == Plan(House(4, GATES)), True)
        for other in (Plan(HOUSE, TWO, ONE), Plan(HOUSE, ONE), Plan(HOUSE, ONE, TWO, TWO), plan << 1,
                      plan.watch(), (ONE, TWO), None):
            self.assertIs(plan == other, False)
            self.assertIs(plan != other, True)
        self.assertIs(Plan(HOUSE) == Plan(House(5, GATES)), False)

    def test_new_lists(self):
        plan = Plan(HOUSE, ONE)
        plan.sole(0).clear()
        self.assertEqual(len(plan.sole(0)), 6)
