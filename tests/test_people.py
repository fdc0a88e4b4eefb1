"""Point 48: people who walk the guards of a plan."""

from tests.brute import chances
from tests.checks import Case
from watchbeats.beats import Beat
from watchbeats.crews import Crew
from watchbeats.errors import BadName, OtherHours, RepeatedName, TooMany
from watchbeats.houses import House
from watchbeats.lots import Lot
from watchbeats.people import Manning, man
from watchbeats.plans import Plan

HOUSE = House(4, [("east", 3), ("west", 5)])
WALK = Beat(HOUSE, [0, 1, -1, -1])
REST = Beat(HOUSE, [-1, -1, -1, -1])
NAMES = ["ann", "bob", "cid", "dan", "eve", "fay", "gus", "hal", "ida", "joe", "kim", "leo", "max"]


def is_able(plan, guard, lot):
    """True if whoever can work in these hours can walk the guard; hour by hour."""
    at, start = guard
    crew = plan.crews[at]
    return all(crew.beat[hour - start] == -1 or hour in lot for hour in range(plan.house.hours))


def guards_of(plan):
    return [(at, start) for at, crew in enumerate(plan.crews) for start in crew.starts.members]


def most_pairs(plan, people):
    """The greatest number of pairs, by going through all ways to send people to guards or home."""
    guards = guards_of(plan)
    best = {()}
    for _, lot in people:
        able = [guard for guard in guards if is_able(plan, guard, lot)]
        best |= {tuple(sorted(taken + (guard,))) for taken in best for guard in able if guard not in taken}
    return max(len(taken) for taken in best)


def drawn_plan(chance, most_crews=4, most_hours=5):
    house = House(chance.randint(1, most_hours), [("a", 1), ("b", 2)])
    crews = []
    for _ in range(chance.randint(0, most_crews)):
        beat = Beat(house, [chance.choice([-1, -1, 0, 1]) for _ in range(house.hours)])
        crews.append(Crew(beat, drawn_lot(chance, house.hours)))
    return Plan(house, *crews)


def drawn_lot(chance, hours):
    return Lot(hours, [hour for hour in range(hours) if chance.random() < 0.6])


class ManTest(Case):

    def check(self, plan, people):
        """Holds a Manning against its own proof."""
        manning = man(plan, people)
        self.assertIs(manning.__class__, Manning)
        guards = guards_of(plan)
        lots = dict(people)
        walked = [(at, start) for at, start, _ in manning.pairs]
        names = [name for _, _, name in manning.pairs]
        self.assertEqual(walked, [guard for guard in guards if guard in walked])
        self.assertEqual(len(set(names)), len(names))
        for at, start, name in manning.pairs:
            self.assertTrue(is_able(plan, (at, start), lots[name]))
        self.assertEqual(manning.short, [guard for guard in guards if guard in manning.short])
        self.assertEqual(manning.able, [name for name, lot in people
                                        if any(is_able(plan, guard, lot) for guard in manning.short)])
        self.assertEqual(len(guards) - len(manning.pairs), len(manning.short) - len(manning.able))
        self.assertEqual(manning.missing, len(guards) - len(manning.pairs))
        self.assertEqual([manning.pairs.__class__, manning.short.__class__, manning.able.__class__], [list] * 3)
        return manning

    def test_small(self):
        plan = Plan(HOUSE, Crew(WALK, Lot(4, [0, 2])), Crew(WALK, Lot(4, [1])))
        manning = self.check(plan, [("bob", Lot(4, [1, 2])), ("ann", Lot.full(4))])
        self.assertEqual(manning.missing, 1)
        self.assertIn((1, 1, "bob"), manning.pairs)
        manning = self.check(plan, [("bob", Lot(4, [1, 2])), ("ann", Lot.full(4)), ("cid", Lot(4, [0, 1, 2]))])
        self.assertEqual((manning.pairs, manning.short, manning.able, manning.missing),
                         ([(0, 0, "cid"), (0, 2, "ann"), (1, 1, "bob")], [], [], 0))

    def test_no_guards_and_no_people(self):
        for plan in (Plan(HOUSE), Plan(HOUSE, Crew(WALK, Lot(4, [])))):
            for people in ([], [("ann", Lot.full(4))]):
                manning = self.check(plan, people)
                self.assertEqual((manning.pairs, manning.short, manning.able, manning.missing), ([], [], [], 0))
        manning = self.check(Plan(HOUSE, Crew(WALK, Lot.full(4))), [])
        self.assertEqual((manning.pairs, manning.able, manning.missing), ([], [], 4))

    def test_who_can_walk_nothing_and_what_nobody_can_walk(self):
        plan = Plan(HOUSE, Crew(WALK, Lot(4, [0, 1])))
        manning = self.check(plan, [("ann", Lot(4, [])), ("bob", Lot(4, [1, 2])), ("cid", Lot(4, [1, 2, 3]))])
        self.assertEqual(manning.missing, 1)
        self.assertIn(manning.pairs, ([(0, 1, "bob")], [(0, 1, "cid")]))
        self.assertEqual((manning.short, manning.able), ([(0, 0)], []))

    def test_who_always_rests_is_walked_by_anyone(self):
        plan = Plan(HOUSE, Crew(REST, Lot(4, [3])))
        self.assertEqual(self.check(plan, [("ann", Lot(4, []))]).pairs, [(0, 3, "ann")])
        plan = Plan(HOUSE, Crew(WALK, Lot(4, [0])), Crew(REST, Lot(4, [0, 3])))
        manning = self.check(plan, [("ann", Lot(4, [])), ("bob", Lot(4, [])), ("cid", Lot(4, []))])
        self.assertEqual([(at, start) for at, start, _ in manning.pairs], [(1, 0), (1, 3)])

    def test_as_many_pairs_as_possible(self):
        chance = chances(1)
        for _ in range(300):
            plan = drawn_plan(chance)
            people = [(name, drawn_lot(chance, plan.house.hours)) for name in NAMES[:chance.randint(0, 4)]]
            self.assertEqual(len(self.check(plan, people).pairs), most_pairs(plan, people))

    def test_people_change_for_others(self):
        # Whoever is asked first must give way, along the whole line of people.
        house = House(12, [("a", 1)])
        beat = Beat(house, [0] + [-1] * 11)
        plan = Plan(house, Crew(beat, Lot.full(12)))
        people = [(name, Lot(12, [at, min(at + 1, 11)][:1 + (at < 11)])) for at, name in enumerate(NAMES[:12])]
        for order in (people, people[::-1], people[6:] + people[:6]):
            self.assertEqual(self.check(plan, order).missing, 0)
        people[11] = ("leo", Lot(12, [0]))
        self.assertEqual(self.check(plan, people).missing, 0)
        people[0] = ("ann", Lot(12, [0]))
        self.assertEqual(self.check(plan, people).missing, 1)

    def test_largest(self):
        chance = chances(2)
        house = House(24, [("a", 1), ("b", 2)])
        for _ in range(30):
            crews = [Crew(Beat(house, [chance.choice([-1, -1, -1, 0, 1]) for _ in range(24)]),
                          Lot(24, chance.sample(range(24), 6))) for _ in range(4)]
            plan = Plan(house, *crews)
            people = [(name, Lot(24, chance.sample(range(24), 20))) for name in NAMES[:12]]
            self.assertGreaterEqual(self.check(plan, people).missing, 12)
        plan = Plan(house, Crew(Beat(house, [0] * 24), Lot.full(24)))
        self.assertEqual(self.check(plan, [(name, Lot.full(24)) for name in NAMES[:12]]).missing, 12)

    def test_what_is_passed_stays_and_what_is_told_is_new(self):
        plan = Plan(HOUSE, Crew(WALK, Lot(4, [0])))
        people = [("ann", Lot.full(4)), ("bob", Lot(4, []))]
        man(plan, people).pairs.clear()
        self.assertEqual(people, [("ann", Lot.full(4)), ("bob", Lot(4, []))])
        self.assertEqual(man(plan, people).pairs, [(0, 0, "ann")])

    def test_errors_in_order(self):
        house = House(24, [("a", 1)])
        full = Crew(Beat(house, [0] * 24), Lot.full(24))
        one = Crew(Beat(house, [0] * 24), Lot(24, [5]))
        many = [(name, Lot.full(24)) for name in NAMES]
        self.raises(TooMany, {"name": "guards", "most": 24}, man, Plan(house, full, one), many)
        self.raises(TooMany, {"name": "people", "most": 12}, man, Plan(house, full), [("", None)] + many[1:])
        plan = Plan(house, full)
        for name in ("", "Ann", "a1", "toolonger", "a b"):
            self.raises(BadName, {"name": name}, man, plan, [("ann", Lot.full(24)), (name, Lot.full(4)), ("ann", None)])
        self.raises(RepeatedName, {"name": "ann"}, man, plan,
                    [("ann", Lot.full(24)), ("bob", Lot(24, [])), ("ann", Lot.full(4)), ("B", None)])
        self.raises(OtherHours, {}, man, plan, [("ann", Lot.full(12)), ("ann", Lot.full(24))])
        self.raises(OtherHours, {}, man, Plan(house), [("ann", Lot.full(24)), ("bob", Lot.full(360))])
