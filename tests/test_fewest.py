"""Points 15 and 16: fewest starts and their trees of cases."""

import itertools
import random

from tests.checks import HUGE, Case
from watchbeats.errors import BadNumber, NotEnough, OtherHours, TooMany, WrongLength
from watchbeats.fewest import Fewest, fewest_starts, is_enough
from watchbeats.lots import Lot


def meeting(lot, starts, hour):
    """How many of the starts meet the hour."""
    return sum((hour - start) % lot.hours in lot.members for start in starts)


def enough(lots, needs, starts):
    return all(meeting(lot, starts, hour) >= need
               for lot, need in zip(lots, needs) for hour in range(lot.hours))


def least_size(lots, needs):
    hours = lots[0].hours
    for size in range(hours + 1):
        if any(enough(lots, needs, starts) for starts in itertools.combinations(range(hours), size)):
            return size


def cases(seed, many, most):
    """Lots and needs that can be met."""
    chance = random.Random(seed)
    for _ in range(many):
        hours = chance.randint(1, most)
        lots = [Lot(hours, chance.sample(range(hours), chance.randint(0, hours)))
                for _ in range(chance.randint(1, 4))]
        yield lots, [chance.randint(0, min(3, len(lot))) for lot in lots]


class FewestTest(Case):

    def check_tree(self, tree, lots, needs, taken, barred, room):
        """Walks a whole tree of cases and holds it against point 16."""
        self.assertIs(tree.__class__, tuple)
        for number in tree[1:3]:
            self.assertIs(number.__class__, int)
        hours = lots[0].hours
        gate = tree[1]

        def lack(hour):
            return max(0, needs[gate] - meeting(lots[gate], taken, hour))

        def free(hour):
            return [start for start in range(hours) if start not in taken and start not in barred
                    and (hour - start) % hours in lots[gate].members]

        if tree[0] == "count":
            self.assertEqual(len(tree), 2)
            self.assertGreater(sum(lack(hour) for hour in range(hours)), room * len(lots[gate]))
        elif tree[0] == "few":
            self.assertEqual(len(tree), 3)
            self.assertGreater(lack(tree[2]), len(free(tree[2])))
        else:
            self.assertEqual((tree[0], len(tree)), ("split", 4))
            self.assertIs(tree[3].__class__, tuple)
            self.assertGreaterEqual(room, 1)
            self.assertGreaterEqual(lack(tree[2]), 1)
            starts = free(tree[2])
            self.assertGreaterEqual(len(starts), 1)
            self.assertEqual(len(tree[3]), len(starts))
            for at, branch in enumerate(tree[3]):
                below = barred | set(starts[:at])
                self.check_tree(branch, lots, needs, taken | {starts[at]}, below, room - 1)

    def check(self, lots, needs):
        """Checks all that is told of a Fewest but that the starts are as few as possible; that the tree shows."""
        fewest = fewest_starts(lots, needs)
        self.assertIs(fewest.__class__, Fewest)
        self.assertIs(fewest.starts.__class__, Lot)
        self.assertEqual(fewest.starts.hours, lots[0].hours)
        self.assertTrue(enough(lots, needs, fewest.starts.members))
        if len(fewest.starts) == 0:
            self.assertIsNone(fewest.tree)
        else:
            self.check_tree(fewest.tree, lots, needs, set(), set(), len(fewest.starts) - 1)
        return len(fewest.starts)

    def test_examples(self):
        self.assertEqual(fewest_starts([Lot(4, [0, 1])], [0]).starts.members, [])
        self.assertIs(fewest_starts([Lot(4, [0, 1])], [0]).tree, None)
        self.assertEqual(len(fewest_starts([Lot(5, [0, 1])], [1]).starts), 3)

    def test_drawn_cases(self):
        for lots, needs in cases(1, 250, 7):
            self.assertEqual(self.check(lots, needs), least_size(lots, needs))

    def test_the_greatest_ring(self):
        for members, need in (([0], 1), ([0, 1], 2), ([0, 1, 5], 1), ([0, 1, 5], 3), ([0, 2, 3, 7], 3),
                              ([0, 1, 2, 3, 4], 3), ([0, 1, 3, 6, 8, 11], 3), (list(range(12)), 3)):
            self.check([Lot(12, members)], [need])
        self.assertEqual(self.check([Lot.full(12)] * 4, [0, 1, 2, 3]), 3)
        self.assertEqual(self.check([Lot(12, [0])] * 4, [1, 1, 1, 1]), 12)
        self.check([Lot(12, [0, 1, 5]), Lot(12, [2, 3, 4, 9]), Lot(12, [0, 4, 6, 7]), Lot(12, [1, 2, 8])], [1, 2, 1, 1])

    def test_drawn_cases_of_the_greatest_ring(self):
        chance = random.Random(2)
        for _ in range(25):
            lots = [Lot(12, chance.sample(range(12), chance.randint(3, 7))) for _ in range(chance.randint(1, 4))]
            self.check(lots, [chance.randint(0, 3) for _ in lots])

    def test_no_lot_with_fewer_members(self):
        for lots, needs in cases(5, 60, 8):
            size = len(fewest_starts(lots, needs).starts)
            for starts in itertools.combinations(range(lots[0].hours), max(size - 1, 0)):
                self.assertIs(enough(lots, needs, starts), size == 0)

    def test_lots_without_need_can_be_empty(self):
        self.assertEqual(self.check([Lot(6, []), Lot(6, [0, 3])], [0, 1]), 3)
        self.assertEqual(self.check([Lot(1, [0])], [1]), 1)
        self.raises(NotEnough, {"index": 0}, fewest_starts, [Lot(1, [0])], [2])

    def test_is_enough(self):
        chance = random.Random(3)
        told = [0, 0]
        for lots, needs in cases(4, 400, 9):
            hours = lots[0].hours
            starts = Lot(hours, chance.sample(range(hours), chance.randint(hours // 2, hours)))
            told[enough(lots, needs, starts.members)] += 1
            self.assertIs(is_enough(lots, needs, starts), enough(lots, needs, starts.members))
        self.assertGreater(min(told), 30)

    def test_is_enough_turns_the_right_way(self):
        lots = [Lot(6, [0, 1]), Lot(6, [3, 4])]
        self.assertIs(is_enough(lots, [1, 0], Lot(6, [0, 2, 4])), True)
        self.assertIs(is_enough([Lot(3, [0]), Lot(3, [0, 1, 2])], [0, 3], Lot(3, [1, 2])), False)
        self.assertIs(is_enough([Lot(3, [1])], [1], Lot(3, [0, 1])), False)
        self.assertIs(is_enough([Lot(3, [])], [0], Lot(3, [])), True)

    def test_errors_of_both(self):
        ring, more, other = Lot(12, [0]), Lot(13, [0]), Lot(6, [0])
        for call in (fewest_starts, lambda lots, needs: is_enough(lots, needs, Lot(3, []))):
            self.raises(BadNumber, {"name": "lots", "value": 0}, call, [], [9])
            self.raises(TooMany, {"name": "lots", "most": 4}, call, [more] * 5, [9])
            self.raises(BadNumber, {"name": "hours", "value": 13}, call, [more, other], [9])
            self.raises(OtherHours, {}, call, [ring, ring, more], [9])
            self.raises(OtherHours, {}, call, [ring, other], [9, 9])
            self.raises(WrongLength, {"length": 1}, call, [ring, ring], [9])
            self.raises(WrongLength, {"length": 0}, call, [ring], [])
            self.raises(WrongLength, {"length": 5}, call, [ring] * 4, [9] * 5)
            for need in (-1, 4, HUGE, -HUGE):
                self.raises(BadNumber, {"name": "need", "value": need}, call, [ring] * 3, [3, need, 9])

    def test_not_enough_is_last(self):
        ring = Lot(12, [0, 1])
        self.raises(NotEnough, {"index": 1}, fewest_starts, [ring, ring, ring], [2, 3, 3])
        self.raises(NotEnough, {"index": 0}, fewest_starts, [Lot(12, []), ring], [1, 3])
        self.raises(BadNumber, {"name": "need", "value": 4}, fewest_starts, [ring, ring], [3, 4])
        self.assertIs(is_enough([ring], [3], Lot.full(12)), False)

    def test_starts_of_other_hours_are_last(self):
        self.raises(OtherHours, {}, is_enough, [Lot(12, [0])], [1], Lot(6, [0]))
        self.raises(OtherHours, {}, is_enough, [Lot(12, [0])], [3], Lot(13, []))

    def test_lists_stay(self):
        lots, needs = [Lot(5, [0, 1]), Lot(5, [2])], [1, 0]
        fewest_starts(lots, needs)
        is_enough(lots, needs, Lot.full(5))
        self.assertEqual((lots, needs), ([Lot(5, [0, 1]), Lot(5, [2])], [1, 0]))
