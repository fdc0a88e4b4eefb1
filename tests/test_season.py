"""Points 50 to 52, 54 and 55: live seasons."""

from fractions import Fraction

from tests.brute import (all_cells, all_spreads, chances, drawn_house, drawn_watch, drawn_weights, fraction, is_fit,
                         lost, most_lost)
from tests.checks import HUGE, Case
from tests.kept_checks import KeptChecks
from tests.test_tables import TURNS, drawn_family
from watchbeats.afterwards import after
from watchbeats.errors import (AlreadySeen, BadNumber, BadShares, BadSpread, FailedDeed, KnownCell, NoPlace, NotDrawn,
                               NothingLeft, Refused, TooMany, WatchError, WrongLength)
from watchbeats.families import Family
from watchbeats.houses import House
from watchbeats.ratio import Ratio
from watchbeats.season import Season
from watchbeats.tables import close_table
from watchbeats.watches import Watch

HOUSE = House(3, [("east", 3), ("west", 5)])
FAMILY = Family(HOUSE, [Watch(HOUSE, [[1, 0, 2], [0, 4, 5]]), Watch(HOUSE, [[1, 0, 2], [0, 4, 1]]),
                        Watch(HOUSE, [[0, 0, 2], [0, 4, 1]])])
WEIGHTS = [Ratio(1, 2), Ratio(1, 3), Ratio(1, 6)]
THIRDS = [Ratio(1, 3)] * 3


def made(tries=3, looks=2):
    return Season(FAMILY, WEIGHTS, bound=4, tries=tries, looks=looks)


def shown(season):
    told = [season.standing, season.looked, season.lost, season.draws, season.done, season.family, season.weights,
            season.bound, season.tries, season.looks]
    if season.standing is not None:
        told += [season.left(), season.weights_now(), season.worst(), season.safe()]
    return told


class KeptSeasonTest(KeptChecks, Case):

    DEEDS = (("draw", 3), ("look", 1, 2), ("attempt", ((0, 0, 1), (1, 0, 2))), ("look", 0, 0), ("draw", 0), ("draw", 0),
             ("look", 0, 2), ("attempt", ()))
    BAD = (
        ((), None), (("jump",), None), (("look", 1), None), (("look", 1, 1, 1), None), (("draw",), None),
        (("draw", 0, 0), None), (("attempt",), None), (("attempt", (), ()), None), (("undo", 1), None),
        (("redo", None), None), (("run", []), None), (("left",), None), (("done",), None), (("Draw", 0), None),
        ((0, "draw"), None), ((None,), None), ((("draw", 0),), None), ((["draw"], 0), None),
        (("draw", 6), NoPlace), (("draw", -1), NoPlace), (("look", 0, 3), NoPlace), (("look", 0, 2), AlreadySeen),
        (("attempt", ((0, 0, 4),)), TooMany), (("attempt", ((0, 0, 7),)), TooMany),
        (("attempt", ((0, 0, 0),)), BadSpread), (("attempt", ((0, 2, 1),)), KnownCell), (("redo",), NothingLeft))

    def made(self):
        return made()

    def shown(self, kept):
        return shown(kept)


class SeasonTest(Case):

    def test_at_first(self):
        season = Season(FAMILY, [1, 0, 0], bound=7)
        self.assertEqual([season.standing, season.looked, season.lost, season.draws, season.done],
                         [None, (), 0, 0, 0])
        self.assertEqual([season.family, season.weights, season.bound, season.tries, season.looks],
                         [FAMILY, [1, 0, 0], 7, 1, 1])
        self.assertEqual([weight.__class__ for weight in season.weights + [season.bound]], [Ratio] * 4)

    def test_what_is_passed_stays(self):
        weights = [1, 0, 0]
        season = Season(FAMILY, weights, bound=Ratio(-1, 2))
        self.assertEqual((weights, weights[0].__class__, season.bound), ([1, 0, 0], int, Ratio(-1, 2)))
        weights[:] = [0, 0, 1]
        season.draw(0)
        self.assertEqual((season.weights, season.standing), ([1, 0, 0], 0))
        season.weights_now().clear()
        season.left().clear()
        self.assertEqual((season.weights_now(), season.left()), ([1, 0, 0], [0]))

    def test_errors_in_order(self):
        def make(weights, tries=1, looks=1):
            return Season(FAMILY, weights, bound=1, tries=tries, looks=looks)
        self.refuses_bad_weights(lambda weights: make(weights, 9, 9), 3)
        for wrong in (-1, 4, HUGE, -HUGE):
            self.raises(BadNumber, {"name": "tries", "value": wrong}, make, WEIGHTS, wrong, 9)
            self.raises(BadNumber, {"name": "looks", "value": wrong}, make, WEIGHTS, 3, wrong)
        for tries in range(4):
            for looks in range(4):
                season = make(WEIGHTS, tries, looks)
                self.assertEqual((season.tries, season.looks), (tries, looks))

    def test_draw(self):
        season = made()
        for ticket, index in ((0, 0), (2, 0), (3, 1), (4, 1), (5, 2)):
            self.assertIs(season.draw(ticket), None)
            self.assertEqual(season.standing, index)
        self.assertEqual((season.draws, season.done), (5, 5))
        for ticket in (-1, 6, HUGE, -HUGE):
            self.raises(NoPlace, {}, season.draw, ticket)
        self.assertEqual((season.standing, season.draws), (2, 5))

    def test_a_draw_ends_the_looks_but_not_the_losses(self):
        season = made()
        season.draw(0)
        season.look(0, 0)
        season.attempt(((1, 0, 1),))
        season.draw(0)
        self.assertEqual((season.looked, season.lost, season.draws), ((), 5, 2))
        season.look(0, 0)
        season.attempt(((1, 0, 1),))
        self.assertEqual((season.looked, season.lost, season.draws), (((0, 0, 1),), 10, 2))

    def test_look(self):
        season = made(looks=3)
        season.draw(5)
        self.assertEqual([season.look(1, 2), season.look(0, 0), season.look(1, 1)], [1, 0, 4])
        self.assertEqual(season.looked, ((0, 0, 0), (1, 1, 4), (1, 2, 1)))

    def test_errors_of_look_in_order(self):
        season = made()
        self.raises(NotDrawn, {}, season.look, 9, 9)
        season.draw(0)
        season.look(1, 2)
        for cell in ((-1, 0), (2, 0), (0, -1), (0, 3), (HUGE, 0), (0, HUGE)):
            self.raises(NoPlace, {}, season.look, *cell)
        self.raises(AlreadySeen, {"cell": (1, 2)}, season.look, 1, 2)
        season.look(0, 0)
        self.raises(NoPlace, {}, season.look, 2, 0)
        self.raises(AlreadySeen, {"cell": (0, 0)}, season.look, 0, 0)
        self.raises(TooMany, {"name": "looks", "most": 2}, season.look, 0, 1)
        season = made(looks=0)
        season.draw(0)
        self.raises(TooMany, {"name": "looks", "most": 0}, season.look, 0, 1)
        self.assertTrue(issubclass(AlreadySeen, Refused) and issubclass(NotDrawn, Refused))

    def test_attempt(self):
        season = made()
        season.draw(0)
        self.assertEqual([season.attempt(spread) for spread in (
            (), ((0, 0, 1),), ((0, 0, 2),), ((0, 1, 1), (1, 0, 2)))], [0, 0, 3, 8])
        self.assertEqual((season.lost, season.looked, season.done), (11, (), 5))
        season.undo()
        self.assertEqual((season.lost, season.attempt(((1, 0, 1),)), season.lost), (3, 5, 8))

    def test_errors_of_attempt_in_order(self):
        season = made()
        self.raises(NotDrawn, {}, season.attempt, ((9, 9, 9),))
        season.draw(0)
        season.look(1, 0)
        season.look(0, 1)
        self.refuses_bad_spreads(season.attempt)
        self.raises(TooMany, {"name": "tries", "most": 3}, season.attempt, ((0, 1, 4),))
        self.raises(TooMany, {"name": "tries", "most": 3}, season.attempt, ((0, 0, 1), (0, 1, 2), (1, 0, 1)))
        self.raises(KnownCell, {"cell": (0, 1)}, season.attempt, ((0, 0, 1), (0, 1, 1), (1, 0, 1)))
        self.raises(KnownCell, {"cell": (1, 0)}, season.attempt, ((0, 0, 1), (1, 0, 1)))
        self.assertEqual((season.done, season.lost), (3, 0))
        season.draw(0)
        self.assertEqual(season.attempt(((0, 1, 1), (1, 0, 1))), 8)
        season = made(tries=0)
        season.draw(0)
        self.assertEqual(season.attempt(()), 0)
        self.raises(TooMany, {"name": "tries", "most": 0}, season.attempt, ((0, 0, 1),))

    def test_questions_before_the_first_draw(self):
        season = made()
        for _ in range(2):
            for call in (season.left, season.weights_now, season.worst, season.safe):
                self.raises(NotDrawn, {}, call)
            season.draw(0)
            season.undo()

    def test_questions_are_no_deeds(self):
        season = made()
        season.draw(0)
        season.look(0, 0)
        season.undo()
        before = season.done
        season.left(), season.weights_now(), season.worst(), season.safe()
        self.assertEqual(season.done, before)
        season.redo()
        self.assertEqual(season.looked, ((0, 0, 1),))

    def test_members_without_weight_are_not_left(self):
        season = Season(FAMILY, [0, Ratio(1, 2), Ratio(1, 2)], bound=1, looks=2)
        season.draw(0)
        self.assertEqual((season.standing, season.left()), (1, [1, 2]))
        season.look(0, 0)
        self.assertEqual((season.left(), season.weights_now()), ([1], [0, 1, 0]))

    def test_the_example(self):
        season = Season(TURNS, THIRDS, bound=5)
        self.assertEqual(season.run([("draw", 1), ("look", 0, 1), ("attempt", ((0, 0, 1),))]), [None, 1, 6])
        self.assertEqual([season.left(), str(season.worst()), season.safe(), season.lost], [[1], "6", False, 6])
        self.assertEqual(season.worst().__class__, Ratio)

    def test_safe_at_the_bound(self):
        for bound, told in ((4, True), (Ratio(12, 3), True), (Ratio(399, 100), False), (Ratio(401, 100), True)):
            season = Season(TURNS, THIRDS, bound=bound)
            season.draw(0)
            self.assertEqual(season.worst(), 4)
            self.assertIs(season.safe(), told)

    def test_against_plain_answers(self):
        chance = chances(1)
        for _ in range(60):
            family = drawn_family(chance, chance.randint(1, 3), chance.randint(1, 2))
            weights = drawn_weights(chance, len(family))
            tries, looks = chance.randint(0, 3), chance.randint(0, 3)
            season = Season(family, weights, bound=chance.randint(0, 9), tries=tries, looks=looks)
            season.draw(chance.randrange(Season(family, weights, bound=0)._tickets.total))
            cells = all_cells(family.house)
            total = 0
            for gate, hour in chance.sample(cells, min(looks, len(cells))):
                self.assertEqual(season.look(gate, hour), family[season.standing][gate, hour])
                known = [(g, h) for g, h, _ in season.looked]
                spread = chance.choice(all_spreads([cell for cell in cells if cell not in known], tries))
                told = lost(family[season.standing], spread)
                self.assertEqual(season.attempt(spread), told)
                total += told
                fitting = [at for at, watch in enumerate(family) if is_fit(watch, season.looked)]
                self.assertEqual(season.left(), [at for at in fitting if weights[at] > 0])
                self.assertEqual(season.weights_now(), after(weights, family, season.looked))
                whole, most = most_lost(list(family), [fraction(weight) for weight in weights], season.looked, tries)
                self.assertEqual(fraction(season.worst()), Fraction(most) / whole)
                self.assertIs(season.safe(), season.worst() <= season.bound)
            self.assertEqual(season.lost, total)

    def test_largest(self):
        chance = chances(2)
        house = drawn_house(chance, 24, 2, most=60)
        family = Family(house, [drawn_watch(chance, house, most=1) for _ in range(8)])
        weights = [Ratio(1, HUGE - at) for at in range(7)]
        weights.append(1 - sum(weights))
        season = Season(family, weights, bound=Ratio(HUGE, HUGE - 1), tries=3, looks=3)
        season.draw(0)
        self.assertEqual(season.standing, 0)
        for gate, hour in ((1, 23), (0, 0), (0, 23)):
            season.look(gate, hour)
        fitting = [at for at, watch in enumerate(family) if is_fit(watch, season.looked)]
        self.assertEqual(season.left(), fitting)
        whole, most = most_lost(list(family), [fraction(weight) for weight in weights], season.looked, 3)
        self.assertEqual(fraction(season.worst()), most / whole)

    def test_a_season_keeps_what_a_table_promises(self):
        chance = chances(3)
        for _ in range(40):
            family = drawn_family(chance, chance.randint(1, 3), chance.randint(1, 2), most_members=4)
            tries, looks = chance.randint(0, 2), chance.randint(0, 2)
            top = tries * max(family.house.stakes)
            bound = min((Ratio(top * part, 8) for part in range(9)
                         if close_table(family, Ratio(top * part, 8), tries=tries, looks=looks).held),
                        key=fraction)
            table = close_table(family, bound, tries=tries, looks=looks)
            season = Season(family, table.weights, bound=bound, tries=tries, looks=looks)
            rows = [("draw", ticket) for ticket in range(9)] + [("look", *cell) for cell in all_cells(family.house)]
            rows += [("attempt", spread) for spread in all_spreads(all_cells(family.house), tries)[:5]]
            rows += [("undo",), ("redo",)]
            for _ in range(60):
                try:
                    season.run([chance.choice(rows)])
                except FailedDeed:
                    continue
                if season.standing is not None:
                    self.assertTrue(season.safe())

    def test_deeds_that_change_nothing_are_deeds(self):
        season = made()
        season.run([("draw", 0), ("attempt", ()), ("attempt", ()), ("undo",)])
        self.assertEqual(season.done, 2)
        season.attempt(())
        self.raises(NothingLeft, {}, season.redo)
        self.assertEqual(season.done, 3)

    def test_many_deeds(self):
        season = made()
        season.draw(0)
        for _ in range(3000):
            season.attempt(((1, 0, 1),))
        self.assertEqual((season.lost, season.done), (15000, 3001))
        for _ in range(3000):
            season.undo()
        self.assertEqual((season.lost, season.done), (0, 1))

    def test_errors_are_watch_errors(self):
        for kind in (WrongLength, BadShares, NotDrawn):
            self.assertTrue(issubclass(kind, WatchError))
