"""Points 9 and 10: even lots, and lots told back by their differences."""

import itertools

from tests.checks import HUGE, Case, spent
from watchbeats.differences import differences
from watchbeats.errors import BadNumber, WrongLength
from watchbeats.evenlots import even_count, even_lots, is_even, squares, told_back
from watchbeats.lots import Lot


def lots_of(hours, size):
    """All lots of a size, in ascending order."""
    return [Lot(hours, list(members)) for members in itertools.combinations(range(hours), size)]


def pair_counts(lot):
    """For each d but 0 the number of ordered pairs of members with this difference."""
    return [sum((y + d) % lot.hours in lot.members for y in lot.members) for d in range(1, lot.hours)]


class EvenTest(Case):

    def test_is_even(self):
        for hours in range(1, 9):
            for size in range(hours + 1):
                for lot in lots_of(hours, size):
                    self.assertIs(is_even(lot), len(set(pair_counts(lot))) <= 1)

    def test_even_count(self):
        for hours in range(2, 40):
            for size in range(hours + 1):
                whole, rest = divmod(size * (size - 1), hours - 1)
                self.assertEqual(even_count(hours, size), None if rest else whole)
        self.assertEqual([even_count(1, 0), even_count(1, 1)], [0, 0])
        self.assertEqual([even_count(360, 0), even_count(360, 360), even_count(360, 2)], [0, 360, None])
        self.assertIs(even_count(7, 3).__class__, int)

    def test_even_count_is_that_of_even_lots(self):
        for hours in range(2, 9):
            for size in range(hours + 1):
                for lot in lots_of(hours, size):
                    if is_even(lot):
                        self.assertEqual(pair_counts(lot), [even_count(hours, size)] * (hours - 1))

    def test_even_count_errors(self):
        for hours in (0, -1, 361, HUGE):
            self.raises(BadNumber, {"name": "hours", "value": hours}, even_count, hours, -1)
        for size in (-1, 8, HUGE, -HUGE):
            self.raises(BadNumber, {"name": "size", "value": size}, even_count, 7, size)

    def test_even_lots_example(self):
        lots = list(even_lots(7, 3))
        self.assertEqual([len(lots), lots[0].members, lots[1].members, lots[5].members],
                         [6, [0, 1, 3], [0, 1, 5], [0, 4, 6]])

    def test_even_lots_are_all(self):
        for hours in range(1, 10):
            for size in range(1, hours + 1):
                expected = [lot.members for lot in lots_of(hours, size)
                            if 0 in lot.members and len(set(pair_counts(lot))) <= 1]
                self.assertEqual([lot.members for lot in even_lots(hours, size)], expected)
                self.assertTrue(all(lot.hours == hours for lot in even_lots(hours, size)))

    def test_even_lots_of_the_greatest_ring(self):
        lots = [lot.members for lot in even_lots(13, 4)]
        self.assertEqual(lots, sorted(lots))
        self.assertEqual(lots[0], [0, 1, 3, 9])
        self.assertEqual(len(lots), 4 * 4)
        self.assertEqual([lot.members for lot in even_lots(13, 13)], [list(range(13))])
        self.assertEqual(list(even_lots(13, 6)), [])

    def test_even_lots_errors(self):
        for hours in (0, 14, -HUGE, HUGE):
            self.raises(BadNumber, {"name": "hours", "value": hours}, lambda: spent(even_lots(hours, 0)))
        for size in (0, -1, 8, HUGE):
            self.raises(BadNumber, {"name": "size", "value": size}, lambda: spent(even_lots(7, size)))

    def test_errors_when_the_iteration_begins(self):
        one, two = even_lots(0, 0), told_back([])
        self.raises(BadNumber, {"name": "hours", "value": 0}, next, one)
        self.raises(WrongLength, {"length": 0}, next, two)

    def test_squares(self):
        primes = [p for p in range(3, 360) if p % 4 == 3 and all(p % k for k in range(2, p))]
        self.assertEqual((primes[0], primes[-1]), (3, 359))
        for prime in primes:
            lot = squares(prime)
            self.assertEqual((lot.hours, lot.members), (prime, sorted({x * x % prime for x in range(1, prime)})))
        for prime in primes[:12] + primes[-1:]:
            self.assertIs(is_even(squares(prime)), True)

    def test_squares_of_other_numbers(self):
        for number in (2, 5, 13, 9, 15, 27, 1, 0, -1, -5, 4, 355, 357, 360, 361, 363, 367, HUGE, -HUGE):
            self.raises(BadNumber, {"name": "prime", "value": number}, squares, number)


class ToldBackTest(Case):

    def test_example(self):
        lots = list(told_back([4, 1, 1, 1, 1, 1, 2, 1, 1, 1, 1, 1]))
        self.assertEqual([len(lots), lots[0].members, lots[1].members, lots[2].members, lots[3].members],
                         [4, [0, 1, 3, 7], [0, 1, 4, 6], [0, 1, 6, 10], [0, 1, 7, 9]])

    def test_all_differences_of_small_rings(self):
        for hours in range(1, 9):
            known = {}
            for size in range(hours + 1):
                for lot in lots_of(hours, size):
                    if lot.members == min((lot << by).members for by in range(hours)):
                        known.setdefault(tuple(differences(lot)), []).append(lot.members)
            for counts, members in known.items():
                self.assertEqual([lot.members for lot in told_back(list(counts))], members)

    def test_the_greatest_ring(self):
        for lot in (Lot(12, []), Lot.full(12), Lot(12, [0, 2, 5, 6, 7, 11])):
            found = list(told_back(differences(lot)))
            self.assertIn(lot.least_turn(), found)
            for one in found:
                self.assertEqual(differences(one), differences(lot))
                self.assertEqual(one, one.least_turn())

    def test_nothing(self):
        for counts in ([2], [1, 1], [HUGE], [HUGE, 0, 0], [2, HUGE, 1], [0, 1], [3, 2, 3], [13] + [0] * 11):
            self.assertEqual(list(told_back(counts)), [])

    def test_errors(self):
        self.raises(WrongLength, {"length": 0}, lambda: spent(told_back([])))
        self.raises(WrongLength, {"length": 13}, lambda: spent(told_back([-1] * 13)))
        self.raises(BadNumber, {"name": "count", "value": -2}, lambda: spent(told_back([HUGE, 0, -2, -1])))
        self.raises(BadNumber, {"name": "count", "value": -HUGE}, lambda: spent(told_back([-HUGE] * 12)))

    def test_list_stays(self):
        counts = [1, 0, 0]
        self.assertEqual([lot.members for lot in told_back(counts)], [[0]])
        self.assertEqual(counts, [1, 0, 0])
        begun = told_back(counts)
        self.assertEqual(next(begun).members, [0])
        counts.append(-1)
        self.assertEqual(list(begun), [])
