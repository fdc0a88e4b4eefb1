"""Points 56 and 57: stretches of great rings, and what they have in common."""

import itertools

from tests.brute import chances
from tests.checks import HUGE, Case
from watchbeats.differences import meetings
from watchbeats.errors import BadNumber, BadStretch, OtherHours, TooMany
from watchbeats.lots import Lot
from watchbeats.stretches import Stretches, bends, common

GREAT = 10 ** 40


def hours_of(hours, stretches):
    """The list of the hours that stretches tell."""
    return sorted((start + at) % hours for start, length in stretches for at in range(length))


def told_pieces(hours, members):
    """The longest stretches of a small ring, hour by hour."""
    if len(members) == hours:
        return [(0, hours)]
    told = []
    for hour in members:
        if (hour - 1) % hours not in members:
            length = 1
            while (hour + length) % hours in members:
                length += 1
            told.append((hour, length))
    return told


def drawn_stretches(chance, hours, most=6):
    """Stretches as they can be passed: without an hour in common, and in any order."""
    told = []
    taken = set()
    for _ in range(chance.randint(0, most)):
        start, length = chance.randrange(hours), chance.randint(1, max(1, hours // 3))
        mine = set(hours_of(hours, [(start, length)]))
        if not mine & taken:
            taken |= mine
            told.append((start, length))
    return told


def all_sets(hours):
    """All sets of hours of a small ring that six stretches can tell."""
    for many in range(hours + 1):
        for members in itertools.combinations(range(hours), many):
            yield list(members), Stretches(hours, told_pieces(hours, list(members)))


class StretchesTest(Case):

    def check(self, hours, stretches):
        """Holds stretches of a small ring against the list of their hours."""
        made = Stretches(hours, stretches)
        members = hours_of(hours, stretches)
        self.assertEqual((made.hours, made.size, made.pieces), (hours, len(members), told_pieces(hours, members)))
        self.assertEqual([hour for hour in range(hours) if hour in made], members)
        self.assertEqual(made.listed(), Lot(hours, members))
        for by in (0, 1, -1, hours - 1, hours, 7 * hours + 2, -HUGE):
            self.assertEqual((made << by).listed(), Lot(hours, members) << by)
        self.assertEqual((~made).listed(), ~Lot(hours, members))
        self.assertEqual(~~made, made)
        return made

    def test_small(self):
        made = self.check(10, [(7, 2), (1, 3)])
        self.assertEqual((made.pieces, made.size, made.hours), ([(1, 3), (7, 2)], 5, 10))
        self.assertEqual([x in made for x in (0, 1, 3, 4, 6, 7, 8, 9)],
                         [False, True, True, False, False, True, True, False])
        self.assertEqual((~made).pieces, [(4, 3), (9, 2)])
        self.assertEqual((made << 4).pieces, [(1, 2), (5, 3)])
        self.assertEqual((made * 3).pieces, [(3, 9), (21, 6)])

    def test_stretches_that_touch(self):
        self.assertEqual(self.check(10, [(4, 2), (1, 3)]).pieces, [(1, 5)])
        self.assertEqual(self.check(10, [(8, 2), (0, 3)]).pieces, [(8, 5)])
        self.assertEqual(self.check(10, [(0, 1), (2, 1), (1, 1), (9, 1), (5, 1), (7, 2)]).pieces, [(5, 1), (7, 6)])
        self.assertEqual(self.check(10, [(9, 3)]).pieces, [(9, 3)])
        self.assertEqual(self.check(10, [(9, 3), (2, 1), (5, 1)]).pieces, [(5, 1), (9, 4)])

    def test_all_hours_and_none(self):
        for stretches in ([(0, 10)], [(7, 10)], [(3, 4), (7, 6)], [(9, 3), (2, 3), (5, 4)]):
            self.assertEqual(self.check(10, stretches).pieces, [(0, 10)])
        none = self.check(10, [])
        self.assertEqual((none.pieces, none.size, (~none).pieces), ([], 0, [(0, 10)]))
        self.assertEqual((~Stretches(10, [(3, 10)])).pieces, [])

    def test_ring_of_one_hour(self):
        self.assertEqual(self.check(1, [(0, 1)]).pieces, [(0, 1)])
        self.assertEqual(self.check(1, []).pieces, [])

    def test_all_small_sets(self):
        for hours in range(1, 9):
            for members, made in all_sets(hours):
                self.check(hours, made.pieces)

    def test_drawn(self):
        chance = chances(1)
        for _ in range(300):
            hours = chance.randint(1, 40)
            self.check(hours, drawn_stretches(chance, hours))

    def test_great_ring(self):
        end = GREAT - 1
        made = Stretches(GREAT, [(end, 2), (5, GREAT - 10)])
        self.assertEqual((made.pieces, made.size), ([(5, GREAT - 10), (end, 2)], GREAT - 8))
        self.assertEqual([x in made for x in (0, 1, 4, 5, GREAT - 6, GREAT - 5, end, GREAT, 5 - GREAT, -1, 10 ** 60)],
                         [True, False, False, True, True, False, True, True, True, True, True])
        self.assertEqual((~made).pieces, [(1, 4), (GREAT - 5, 4)])
        self.assertEqual((made << 2).pieces, [(1, 2), (7, GREAT - 10)])
        self.assertEqual(made << GREAT, made)
        self.assertEqual(made << HUGE, made << -1)
        six = Stretches(GREAT, [(at * 10 ** 39, 10 ** 38) for at in (5, 3, 9, 1, 7, 0)])
        self.assertEqual(six.pieces, [(at * 10 ** 39, 10 ** 38) for at in (0, 1, 3, 5, 7, 9)])
        self.assertEqual((~six).pieces, [(at * 10 ** 39 + 10 ** 38, many * 10 ** 38)
                                         for at, many in ((0, 9), (1, 19), (3, 19), (5, 19), (7, 19), (9, 9))])
        self.assertEqual(Stretches(GREAT, [(end, GREAT)]).pieces, [(0, GREAT)])

    def test_what_is_passed_stays_and_what_is_told_is_new(self):
        stretches = [(7, 2), (1, 3)]
        made = Stretches(10, stretches)
        stretches.append((4, 1))
        made.pieces.clear()
        self.assertEqual(made.pieces, [(1, 3), (7, 2)])
        self.assertEqual(stretches, [(7, 2), (1, 3), (4, 1)])

    def test_equal(self):
        one = Stretches(10, [(1, 3), (4, 2)])
        self.assertTrue(one == Stretches(10, [(1, 5)]) and not one != Stretches(10, [(3, 3), (1, 2)]))
        self.assertTrue(Stretches(10, [(9, 10)]) == Stretches(10, [(0, 4), (4, 6)]))
        for other in (Stretches(10, [(1, 4)]), Stretches(11, [(1, 5)]), Stretches(10, []), one.listed(), [(1, 5)],
                      None):
            self.assertTrue(one != other and not one == other)
        self.assertFalse(Stretches(10, []) == Stretches(11, []))

    def test_stretched(self):
        chance = chances(2)
        for _ in range(60):
            hours, by = chance.randint(1, 12), chance.randint(1, 9)
            made = Stretches(hours, drawn_stretches(chance, hours))
            told = [by * hour + at for hour in made.listed() for at in range(by)]
            self.assertEqual((made * by).listed(), Lot(hours * by, told))
            self.assertEqual(made * 1, made)
        great = Stretches(4, [(3, 2)]) * (GREAT // 4)
        self.assertEqual((great.hours, great.pieces), (GREAT, [(3 * GREAT // 4, GREAT // 2)]))

    def test_errors_of_stretched_in_order(self):
        made = Stretches(10, [(3, 2)])
        for times in (0, -1, -HUGE):
            self.raises(BadNumber, {"name": "times", "value": times}, lambda: made * times)
        for times in (GREAT // 10 + 1, GREAT, HUGE):
            self.raises(BadNumber, {"name": "hours", "value": 10 * times}, lambda: made * times)
        self.assertEqual((made * (GREAT // 10)).hours, GREAT)

    def test_errors_in_order(self):
        seven = [(at, 1) for at in range(7)]
        for hours in (0, -1, GREAT + 1, HUGE, -HUGE):
            self.raises(BadNumber, {"name": "hours", "value": hours}, Stretches, hours, seven)
        self.raises(TooMany, {"name": "stretches", "most": 6}, Stretches, 10, [(-1, 0)] + seven)
        self.assertEqual(Stretches(10, seven[:6]).pieces, [(0, 6)])
        self.assertEqual(Stretches.MOST, 6)
        for wrong in ((-1, 1), (10, 1), (5, 0), (5, -1), (5, 11), (HUGE, 1), (5, HUGE), (1, 1), (2, 1), (0, 2), (3, 9),
                      (9, 3), (4, 8), (0, 10)):
            self.raises(BadStretch, {"index": 1}, Stretches, 10, [(1, 2), wrong, (-1, 1)])
            if wrong not in ((1, 1), (2, 1), (0, 2), (3, 9), (9, 3), (4, 8), (0, 10)):
                self.raises(BadStretch, {"index": 0}, Stretches, 10, [wrong])
        self.assertEqual(Stretches(10, [(1, 2), (3, 8)]).size, 10)
        self.raises(BadStretch, {"index": 5}, Stretches, 10, [(0, 1), (2, 1), (4, 1), (6, 1), (8, 1), (7, 2)])

    def test_listed_is_for_small_rings(self):
        self.assertEqual(Stretches(360, [(359, 2)]).listed(), Lot(360, [0, 359]))
        for hours in (361, GREAT):
            self.raises(BadNumber, {"name": "hours", "value": hours}, Stretches(hours, []).listed)


class CommonTest(Case):

    def test_small_rings_both_ways(self):
        chance = chances(3)
        for _ in range(200):
            hours = chance.randint(1, 30)
            one, other = [Stretches(hours, drawn_stretches(chance, hours)) for _ in range(2)]
            told = meetings(one.listed(), other.listed())
            self.assertEqual([common(one, other, by) for by in range(hours)], told)
            for by in (-1, hours, HUGE, -HUGE):
                self.assertEqual(common(one, other, by), told[by % hours])

    def test_all_small_sets(self):
        for hours in range(1, 6):
            for members, one in all_sets(hours):
                for others, other in all_sets(hours):
                    told = meetings(Lot(hours, members), Lot(hours, others))
                    self.assertEqual([common(one, other, by) for by in range(hours)], told)

    def test_stretched(self):
        chance = chances(4)
        for _ in range(40):
            hours = chance.randint(1, 20)
            one, other = [Stretches(hours, drawn_stretches(chance, hours)) for _ in range(2)]
            by = chance.randint(-40, 40)
            for times in (1, 2, 7, GREAT // hours):
                self.assertEqual(common(one * times, other * times, by * times), times * common(one, other, by))

    def test_great_ring(self):
        half = Stretches(GREAT, [(0, GREAT // 2)])
        self.assertEqual([common(half, half, by) for by in (0, 1, -1, GREAT // 2, GREAT, HUGE)],
                         [GREAT // 2, GREAT // 2 - 1, GREAT // 2 - 1, 0, GREAT // 2, GREAT // 2 - 1])
        whole = Stretches(GREAT, [(0, GREAT)])
        self.assertEqual([common(half, whole, 17), common(whole, half, -17), common(whole, whole, 3)],
                         [GREAT // 2, GREAT // 2, GREAT])

    def test_bends(self):
        half = Stretches(10, [(2, 5)])
        self.assertEqual(bends(half, half), [0, 5])
        self.assertEqual(bends(half, Stretches(10, [(9, 2)])), [1, 3, 6, 8])
        self.assertEqual(bends(Stretches(10, [(0, 10)]), half), [3, 8])
        self.assertEqual([bends(half, Stretches(10, [])), bends(Stretches(10, []), half)], [[], []])
        six = Stretches(GREAT, [(at ** 9 * 10 ** 20, at + 1) for at in range(6)])
        told = sorted({(s - t) % GREAT for start, length in six.pieces for s in (start, start + length)
                       for begin, many in six.pieces for t in (begin, begin + many)})
        self.assertEqual(bends(six, six), told)
        self.assertGreater(len(told), 100)

    def test_straight_lines_between_bends(self):
        chance = chances(5)
        for _ in range(150):
            hours = chance.randint(1, 30)
            one, other = [Stretches(hours, drawn_stretches(chance, hours)) for _ in range(2)]
            told = [common(one, other, by) for by in range(hours)]
            at = bends(one, other)
            self.assertEqual(at, sorted(set(at)))
            self.assertTrue(all(0 <= by < hours for by in at))
            for by in range(hours):
                if by not in at:
                    self.assertEqual(2 * told[by], told[by - 1] + told[(by + 1) % hours])
            if at:
                there = [told[by] for by in at]
                self.assertEqual((min(there), max(there)), (min(told), max(told)))

    def test_other_hours(self):
        one, other = Stretches(10, [(0, 1)]), Stretches(11, [(0, 1)])
        self.raises(OtherHours, {}, common, one, other, 0)
        self.raises(OtherHours, {}, bends, one, other)

    def test_lists_are_new(self):
        half = Stretches(10, [(2, 5)])
        bends(half, half).clear()
        self.assertEqual(bends(half, half), [0, 5])
