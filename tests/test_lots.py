"""Points 5 to 7: lots of hours."""

import itertools
import random

from tests.checks import HUGE, Case
from watchbeats.errors import BadNumber, Meets, NotADivisor, OtherHours, RepeatedHour
from watchbeats.lots import Lot
from watchbeats.whole import divisors


def all_lots(hours):
    """All lots of a small ring."""
    for flags in itertools.product([False, True], repeat=hours):
        yield Lot(hours, [hour for hour in range(hours) if flags[hour]])


def some_lots():
    """Lots of small and great rings, the empty and the full ones among them."""
    chance = random.Random(5)
    for hours in (1, 2, 3, 6, 7, 12, 60, 360):
        for size in sorted({0, 1, hours // 2, hours}):
            yield Lot(hours, chance.sample(range(hours), size))


def twice(hours, numbers):
    """The least residue that occurs more than once, or None."""
    residues = [number % hours for number in numbers]
    return min([residue for residue in residues if residues.count(residue) > 1], default=None)


class LotTest(Case):

    def direct(self, hours, numbers, call):
        """The call gives the lot of the numbers, or raises Meets where two have one residue."""
        meets = twice(hours, numbers)
        if meets is None:
            lot = call()
            self.assertIs(lot.__class__, Lot)
            self.assertEqual((lot.hours, lot.members), (hours, sorted(number % hours for number in numbers)))
        else:
            self.raises(Meets, {"hour": meets}, call)

    def test_members(self):
        lot = Lot(360, [374, -1, 3, HUGE, -HUGE])
        self.assertEqual(lot.hours, 360)
        self.assertEqual(lot.members, [3, 14, 81, 279, 359])
        self.assertEqual(Lot(5, []).members, [])
        self.assertEqual(Lot(1, [HUGE]).members, [0])

    def test_hours(self):
        self.assertEqual(Lot.MOST, 360)
        self.assertEqual(Lot(360, [359, -360]).members, [0, 359])
        for hours in (0, -1, 361, HUGE, -HUGE):
            told = {"name": "hours", "value": hours}
            self.raises(BadNumber, told, Lot, hours, [])
            self.raises(BadNumber, told, Lot, hours, [1, 1])
            self.raises(BadNumber, told, Lot.full, hours)

    def test_repeated_hour(self):
        self.raises(RepeatedHour, {"hour": 1}, Lot, 4, [3, 1, 5, 7])
        self.raises(RepeatedHour, {"hour": 3}, Lot, 4, [1, 3, -1, 5])
        self.raises(RepeatedHour, {"hour": 0}, Lot, 1, [0, HUGE])

    def test_list_is_copied(self):
        given = [6, 1]
        lot = Lot(4, given)
        given.append(3)
        lot.members.append(3)
        self.assertEqual((lot.members, given), ([1, 2], [6, 1, 3]))

    def test_length_iteration_contents(self):
        for lot in some_lots():
            self.assertEqual(len(lot), len(lot.members))
            self.assertEqual(list(lot), lot.members)
            self.assertEqual(lot.members, sorted(set(lot.members)))
            for hour in range(lot.hours):
                self.assertIs(hour in lot, hour in lot.members)
                self.assertIs(hour - 7 * lot.hours in lot, hour in lot.members)
        self.assertIs(HUGE in Lot(10, [9]), True)
        self.assertIs(-HUGE in Lot(10, [9]), False)

    def test_equality(self):
        self.assertIs(Lot(6, [1, 2]) == Lot(6, [8, 1]), True)
        self.assertIs(Lot(6, [1, 2]) != Lot(6, [8, 1]), False)
        for other in (Lot(7, [1, 2]), Lot(6, [1]), Lot(6, [1, 3]), [1, 2], (1, 2), {1, 2}, None, "1 2 of 6"):
            self.assertIs(Lot(6, [1, 2]) == other, False)
            self.assertIs(Lot(6, [1, 2]) != other, True)

    def test_full(self):
        for hours in (1, 2, 359, 360):
            self.assertEqual(Lot.full(hours), Lot(hours, list(range(hours))))

    def test_turns(self):
        for lot in some_lots():
            for by in (0, 1, -1, 5, lot.hours, HUGE, -HUGE):
                self.assertEqual(lot << by, Lot(lot.hours, [member + by for member in lot.members]))
                self.assertEqual(lot >> by, Lot(lot.hours, [member - by for member in lot.members]))

    def test_negative_and_rest(self):
        self.assertEqual((-Lot(7, [0, 1, 3])).members, [0, 4, 6])
        for lot in some_lots():
            self.assertEqual(-lot, Lot(lot.hours, [-member for member in lot.members]))
            self.assertEqual(~lot, Lot(lot.hours, [hour for hour in range(lot.hours) if hour not in lot.members]))

    def test_union_and_intersection(self):
        for hours in (1, 3, 4):
            for one, two in itertools.product(list(all_lots(hours)), repeat=2):
                self.assertEqual((one | two).members, sorted(set(one.members) | set(two.members)))
                self.assertEqual((one & two).members, sorted(set(one.members) & set(two.members)))

    def test_products(self):
        for lot in list(all_lots(6)) + list(all_lots(5)):
            for times in (0, 1, -1, 2, 3, 4, 5, 7, HUGE, -HUGE):
                products = [member * times for member in lot.members]
                self.direct(lot.hours, products, lambda: lot * times)
                self.direct(lot.hours, products, lambda: times * lot)
        self.raises(Meets, {"hour": 2}, lambda: Lot(6, [1, 4, 2, 5]) * 2)

    def test_sums(self):
        for one, two in itertools.product(list(all_lots(5)), repeat=2):
            sums = [x + y for x in one.members for y in two.members]
            self.direct(5, sums, lambda: one + two)
        self.assertEqual(Lot(6, [0, 3]) + Lot(6, [0, 1, 2]), Lot.full(6))
        self.assertEqual(Lot(6, []) + Lot.full(6), Lot(6, []))
        self.raises(Meets, {"hour": 0}, lambda: Lot.full(360) + Lot.full(360))

    def test_reduced(self):
        for lot in list(all_lots(6)) + list(all_lots(8)):
            for hours in divisors(lot.hours):
                self.direct(hours, lot.members, lambda: lot % hours)
        self.raises(Meets, {"hour": 1}, lambda: Lot(6, [5, 2, 1, 4]) % 3)

    def test_reduced_by_no_divisor(self):
        for number in (0, -1, -6, 4, 12, HUGE):
            self.raises(NotADivisor, {"number": number}, lambda: Lot(6, [1, 1 + 3]) % number)

    def test_repeated_ring(self):
        for lot in some_lots():
            for times in (1, 2, 6):
                if lot.hours * times <= 360:
                    members = [member + at * lot.hours for member in lot.members for at in range(times)]
                    self.assertEqual(lot ** times, Lot(lot.hours * times, members))
        self.assertEqual((Lot(1, [0]) ** 360), Lot.full(360))

    def test_repeated_ring_errors(self):
        for times in (0, -1, -HUGE):
            self.raises(BadNumber, {"name": "times", "value": times}, lambda: Lot(7, [1]) ** times)
        for times in (52, HUGE):
            self.raises(BadNumber, {"name": "hours", "value": 7 * times}, lambda: Lot(7, [1]) ** times)

    def test_other_hours_first(self):
        one, two = Lot(4, [0, 1]), Lot(6, [0, 1])
        for call in (lambda: one | two, lambda: one & two, lambda: one + two, lambda: two + one):
            self.raises(OtherHours, {}, call)

    def test_step(self):
        for lot in list(some_lots()) + list(all_lots(6)):
            step = next(by for by in range(1, lot.hours + 1) if (lot << by) == lot)
            self.assertEqual(lot.step, step)
            self.assertEqual(lot.hours % step, 0)
        self.assertEqual((Lot(12, []).step, Lot.full(12).step, Lot(12, [0, 4, 8]).step, Lot(12, [0]).step),
                         (1, 1, 4, 12))

    def test_least_turn(self):
        for lot in list(all_lots(6)) + list(all_lots(7)):
            least = min((lot << by).members for by in range(lot.hours))
            self.assertEqual(lot.least_turn().members, least)
            self.assertEqual(lot.least_turn().hours, lot.hours)
        self.assertEqual(Lot(360, [100, 200]).least_turn().members, [0, 100])
        self.assertEqual(Lot(360, []).least_turn().members, [])

    def test_turns_have_one_least_turn(self):
        for one, two in itertools.product(list(all_lots(5)), repeat=2):
            turned = any((one << by) == two for by in range(5))
            self.assertIs(one.least_turn() == two.least_turn(), turned)

    def test_operands_stay(self):
        one, two = Lot(6, [0, 1]), Lot(6, [0, 2])
        for told in (one << 1, one >> 1, -one, ~one, one | two, one & two, one * 5, 5 * one, one + two, one % 3,
                     one ** 2, one.least_turn()):
            told.members.append(9)
        self.assertEqual((one.hours, one.members, two.hours, two.members), (6, [0, 1], 6, [0, 2]))
