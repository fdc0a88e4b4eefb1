"""Point 53, and points 50, 54 and 55 for rosters."""

from tests.brute import chances
from tests.checks import HUGE, Case
from tests.kept_checks import KeptChecks
from tests.test_people import NAMES, drawn_lot, drawn_plan, most_pairs
from watchbeats.beats import Beat
from watchbeats.crews import Crew
from watchbeats.errors import (AlreadyAway, BadName, FailedDeed, NoPlace, NotAway, NothingLeft, OtherHours, OtherHouse,
                               Refused, RepeatedName, TooMany, UnknownName)
from watchbeats.houses import House
from watchbeats.kept import tried
from watchbeats.lots import Lot
from watchbeats.people import Manning, man
from watchbeats.plans import Plan
from watchbeats.roster import Roster

HOUSE = House(4, [("east", 3), ("west", 5)])
OTHER = House(4, [("east", 3), ("west", 4)])
WALK = Beat(HOUSE, [0, 1, -1, -1])
PAIR = Crew(WALK, Lot(4, [0, 2]))
ONE = Crew(WALK, Lot(4, [1]))
PEOPLE = [("bob", Lot(4, [1, 2])), ("ann", Lot.full(4)), ("cid", Lot(4, [0, 1, 2]))]
FULL_HOUSE = House(24, [("a", 1)])
FULL = Crew(Beat(FULL_HOUSE, [0] * 24), Lot.full(24))


def shown(roster):
    manning = roster.manning()
    return [roster.plan, roster.present, roster.missing, roster.done, manning.pairs, manning.short, manning.able]


class KeptRosterTest(KeptChecks, Case):

    DEEDS = (("away", "ann"), ("put", ONE), ("allow", "bob", Lot.full(4)), ("strike", 0), ("back", "ann"),
             ("allow", "cid", Lot(4, [0, 1, 2])), ("away", "cid"), ("put", PAIR))
    BAD = (
        ((), None), (("fly",), None), (("away",), None), (("away", "ann", 1), None), (("back",), None),
        (("allow", "ann"), None), (("allow", "ann", Lot.full(4), 1), None), (("put",), None), (("put", ONE, ONE), None),
        (("strike",), None), (("strike", 0, 0), None), (("undo", 0), None), (("redo", 0), None), (("manning",), None),
        (("Away", "ann"), None), ((7,), None), (("draw", 0), None),
        (("away", "max"), UnknownName), (("away", "cid"), AlreadyAway), (("back", "max"), UnknownName),
        (("back", "bob"), NotAway), (("allow", "max", Lot.full(5)), UnknownName),
        (("allow", "ann", Lot.full(5)), OtherHours), (("put", Crew(Beat(OTHER, [0] * 4), Lot(4, []))), OtherHouse),
        (("strike", 2), NoPlace), (("strike", -1), NoPlace), (("redo",), NothingLeft))

    def made(self):
        return Roster(Plan(HOUSE, PAIR), PEOPLE)

    def shown(self, kept):
        return shown(kept)


class RosterTest(Case):

    def made(self):
        return Roster(Plan(HOUSE, PAIR, ONE), PEOPLE)

    def test_at_first(self):
        roster = self.made()
        self.assertEqual([roster.plan, roster.present, roster.missing, roster.done],
                         [Plan(HOUSE, PAIR, ONE), ["bob", "ann", "cid"], 0, 0])
        self.assertIs(roster.manning().__class__, Manning)
        self.assertEqual(roster.manning().pairs, [(0, 0, "cid"), (0, 2, "ann"), (1, 1, "bob")])
        roster = Roster(Plan(HOUSE), [])
        self.assertEqual([roster.plan, roster.present, roster.missing, roster.manning().pairs],
                         [Plan(HOUSE), [], 0, []])

    def test_errors_of_man(self):
        self.raises(TooMany, {"name": "guards", "most": 24}, Roster,
                    Plan(FULL_HOUSE, FULL, Crew(FULL.beat, Lot(24, [0]))), [])
        self.raises(TooMany, {"name": "people", "most": 12}, Roster, Plan(HOUSE), [(name, None) for name in NAMES])
        self.raises(BadName, {"name": "Bob"}, Roster, Plan(HOUSE), [("ann", Lot.full(4)), ("Bob", Lot.full(5))])
        self.raises(RepeatedName, {"name": "ann"}, Roster, Plan(HOUSE), [("ann", Lot.full(4)), ("ann", Lot.full(5))])
        self.raises(OtherHours, {}, Roster, Plan(HOUSE), [("ann", Lot.full(5))])

    def test_what_is_passed_stays_and_what_is_told_is_new(self):
        people = list(PEOPLE)
        roster = Roster(Plan(HOUSE, PAIR), people)
        people.clear()
        self.assertEqual(roster.present, ["bob", "ann", "cid"])
        roster.present.clear()
        roster.away("bob")
        self.assertEqual((roster.present, PEOPLE[0][0]), (["ann", "cid"], "bob"))
        roster.manning().pairs.clear()
        self.assertEqual(len(roster.manning().pairs), 2)

    def test_away_and_back(self):
        roster = self.made()
        self.assertIs(roster.away("ann"), None)
        self.assertEqual((roster.present, roster.missing), (["bob", "cid"], 1))
        roster.away("bob")
        self.assertEqual((roster.present, roster.missing), (["cid"], 2))
        self.assertIs(roster.back("ann"), None)
        self.assertEqual((roster.present, roster.missing), (["ann", "cid"], 1))
        roster.back("bob")
        self.assertEqual((roster.present, roster.missing, roster.done), (["bob", "ann", "cid"], 0, 4))

    def test_errors_of_away_and_back(self):
        roster = self.made()
        roster.away("ann")
        for name in ("max", "", "Ann", "an"):
            self.raises(UnknownName, {"name": name}, roster.away, name)
            self.raises(UnknownName, {"name": name}, roster.back, name)
        self.raises(AlreadyAway, {"name": "ann"}, roster.away, "ann")
        self.raises(NotAway, {"name": "bob"}, roster.back, "bob")
        self.assertTrue(issubclass(AlreadyAway, Refused) and issubclass(NotAway, Refused))
        self.assertEqual(roster.done, 1)

    def test_allow(self):
        roster = self.made()
        self.assertIs(roster.allow("ann", Lot(4, [])), None)
        self.assertEqual((roster.missing, roster.present), (1, ["bob", "ann", "cid"]))
        roster.away("ann")
        roster.allow("ann", Lot.full(4))
        self.assertEqual((roster.missing, roster.present), (1, ["bob", "cid"]))
        roster.back("ann")
        self.assertEqual(roster.missing, 0)
        self.raises(UnknownName, {"name": "max"}, roster.allow, "max", Lot.full(5))
        self.raises(OtherHours, {}, roster.allow, "ann", Lot.full(5))
        self.assertEqual((roster.missing, roster.done), (0, 4))
        roster.away("ann")
        self.raises(OtherHours, {}, roster.allow, "ann", Lot.full(5))
        self.assertEqual(roster.done, 5)

    def test_put_and_strike(self):
        roster = Roster(Plan(HOUSE), PEOPLE)
        self.assertIs(roster.put(PAIR), None)
        roster.put(ONE)
        roster.put(PAIR)
        self.assertEqual((roster.plan, roster.missing), (Plan(HOUSE, PAIR, ONE, PAIR), 2))
        self.assertIs(roster.strike(0), None)
        self.assertEqual((roster.plan, roster.missing), (Plan(HOUSE, ONE, PAIR), 0))
        roster.strike(1)
        self.assertEqual(roster.plan, Plan(HOUSE, ONE))
        for index in (-1, 1, HUGE, -HUGE):
            self.raises(NoPlace, {}, roster.strike, index)
        roster.strike(0)
        self.raises(NoPlace, {}, roster.strike, 0)
        self.assertEqual((roster.plan, roster.done), (Plan(HOUSE), 6))

    def test_errors_of_put_in_order(self):
        strange = Crew(Beat(House(24, [("a", 2)]), [0] * 24), Lot.full(24))
        none = Crew(FULL.beat, Lot(24, []))
        one = Crew(FULL.beat, Lot(24, [3]))
        roster = Roster(Plan(FULL_HOUSE, FULL, none, none, none), [])
        self.raises(OtherHouse, {}, roster.put, strange)
        self.raises(TooMany, {"name": "crews", "most": 4}, roster.put, one)
        roster.strike(3)
        self.raises(OtherHouse, {}, roster.put, strange)
        self.raises(TooMany, {"name": "guards", "most": 24}, roster.put, one)
        roster.put(none)
        self.assertEqual((roster.missing, len(roster.plan.crews), roster.done), (24, 4, 2))

    def test_the_sign_of_put(self):
        roster = same = Roster(Plan(HOUSE), PEOPLE)
        roster += PAIR
        self.assertIs(roster, same)
        self.assertEqual((roster.plan, roster.done), (Plan(HOUSE, PAIR), 1))
        roster.undo()
        self.assertEqual(roster.plan, Plan(HOUSE))
        roster.redo()
        roster += ONE
        self.assertEqual((same.plan, same.done), (Plan(HOUSE, PAIR, ONE), 2))
        with self.assertRaises(OtherHouse):
            roster += Crew(Beat(OTHER, [0] * 4), Lot(4, []))
        roster += PAIR
        roster += PAIR
        with self.assertRaises(TooMany):
            roster += ONE
        self.assertIs(roster, same)
        self.assertEqual(roster.done, 4)

    def test_houses_that_are_equal(self):
        roster = Roster(Plan(HOUSE), PEOPLE)
        roster.put(Crew(Beat(House(4, [("east", 3), ("west", 5)]), [0] * 4), Lot(4, [0])))
        self.assertEqual(len(roster.plan.crews), 1)

    def test_one_more_away(self):
        chance = chances(1)
        for _ in range(60):
            plan = drawn_plan(chance)
            names = NAMES[:chance.randint(1, 4)]
            people = [(name, drawn_lot(chance, plan.house.hours)) for name in names]
            roster = Roster(plan, people)
            for _ in range(12):
                name = chance.choice(names)
                before = roster.missing
                if name in roster.present:
                    roster.away(name)
                    self.assertIn(roster.missing - before, (0, 1))
                else:
                    roster.back(name)
                    self.assertIn(before - roster.missing, (0, 1))
                here = [person for person in people if person[0] in roster.present]
                self.assertEqual(roster.present, [name for name, _ in here])
                self.assertEqual(roster.missing, plan.guards - most_pairs(plan, here))
                self.assertEqual((roster.manning().missing, man(plan, here).missing), (roster.missing,) * 2)

    def test_largest(self):
        people = [(name, Lot.full(24)) for name in NAMES[:12]]
        roster = Roster(Plan(FULL_HOUSE, FULL), people)
        self.assertEqual(roster.missing, 12)
        roster.run([("away", name) for name in NAMES[:12]])
        self.assertEqual((roster.missing, roster.present), (24, []))
        self.assertEqual(tried(roster, [("back", "ann"), ("strike", 0)]), [None, None])
        self.assertEqual((roster.missing, roster.done), (24, 12))

    def test_run_puts_crews(self):
        roster = Roster(Plan(HOUSE), PEOPLE)
        self.assertEqual(roster.run([("put", PAIR), ("away", "ann"), ("undo",), ("allow", "bob", Lot(4, []))]),
                         [None] * 4)
        self.assertEqual((roster.plan, roster.present, roster.done), (Plan(HOUSE, PAIR), ["bob", "ann", "cid"], 2))
        error = self.raises(FailedDeed, {"index": 1}, roster.run, [("strike", 0), ("strike", 0)])
        self.assertIs(error.__cause__.__class__, NoPlace)
        self.assertEqual(roster.plan, Plan(HOUSE, PAIR))
