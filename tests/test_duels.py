"""Point 28: games of numbers."""

from tests.brute import chances, fraction
from tests.checks import HUGE, Case
from watchbeats.duels import Duel, closes, duel
from watchbeats.errors import BadNumber, TooMany, WrongLength
from watchbeats.ratio import Ratio

COINS = [[1, -1], [-1, 1]]
HALF = Ratio(1, 2)
LARGE = 10 ** 12 - 1


class DuelTest(Case):

    def check(self, rows):
        """Holds a Duel against point 28; returns its worth."""
        told = duel(rows)
        self.assertIs(told.__class__, Duel)
        self.assertIs(told.worth.__class__, Ratio)
        for shares, many in ((told.shares_one, len(rows)), (told.shares_two, len(rows[0]))):
            self.assertIs(shares.__class__, list)
            self.assertEqual([share.__class__ for share in shares], [Ratio] * many)
            self.assertTrue(all(share >= 0 for share in shares))
            self.assertEqual(sum(fraction(share) for share in shares), 1)
        numbers = [[fraction(number) for number in row] for row in rows]
        one = [fraction(share) for share in told.shares_one]
        two = [fraction(share) for share in told.shares_two]
        for column in range(len(rows[0])):
            self.assertGreaterEqual(sum(x * row[column] for x, row in zip(one, numbers)), fraction(told.worth))
        for row in numbers:
            self.assertLessEqual(sum(y * number for y, number in zip(two, row)), fraction(told.worth))
        self.assertIs(closes(rows, told.worth, told.shares_one, told.shares_two), True)
        for by in (Ratio(1, HUGE), Ratio(-1, HUGE)):
            self.assertIs(closes(rows, told.worth + by, told.shares_one, told.shares_two), False)
        return told.worth

    def test_small_games(self):
        told = duel(COINS)
        self.assertEqual((told.worth, told.shares_one, told.shares_two), (0, [HALF, HALF], [HALF, HALF]))
        self.assertEqual(self.check([[3]]), 3)
        self.assertEqual(self.check([[Ratio(-7, 2)]]), Ratio(-7, 2))
        self.assertEqual(self.check([[1, 2, 3]]), 1)
        self.assertEqual(self.check([[1], [2], [3]]), 3)
        self.assertEqual(self.check([[0, 0], [0, 0]]), 0)
        self.assertEqual(self.check([[0, 1, -1], [-1, 0, 1], [1, -1, 0]]), 0)
        self.assertEqual(self.check([[4, 1], [2, 3]]), Ratio(5, 2))
        self.assertEqual(self.check([[4, 3, 6], [2, 1, 9]]), 3)
        self.assertEqual(self.check([[-4, -2], [-1, -3]]), Ratio(-5, 2))

    def test_pure_answers(self):
        told = duel([[1, 5], [3, 4], [2, 9]])
        self.assertEqual((told.worth, told.shares_one[0]), (3, 0))
        self.assertEqual(told.shares_two, [1, 0])

    def test_drawn_games(self):
        chance = chances(1)
        for most in (1, 2, 5, 100):
            for _ in range(40):
                wide = chance.randint(1, 7)
                rows = [[chance.randint(-most, most) for _ in range(wide)] for _ in range(chance.randint(1, 7))]
                worth = self.check(rows)
                # What one side gets the other one pays.
                turned = [[-row[at] for row in rows] for at in range(wide)]
                self.assertEqual(self.check(turned), -worth)

    def test_equal_rows_and_columns(self):
        chance = chances(2)
        for _ in range(30):
            rows = [[chance.randint(0, 2) for _ in range(3)] for _ in range(3)]
            worth = self.check(rows)
            self.assertEqual(self.check([row + row for row in rows + rows]), worth)

    def test_largest_games(self):
        chance = chances(3)
        for _ in range(5):
            rows = [[Ratio(chance.randint(-LARGE, LARGE), chance.randint(1, 99)) for _ in range(12)]
                    for _ in range(12)]
            self.check(rows)
        self.assertEqual(self.check([[int(at == by) * LARGE for at in range(12)] for by in range(12)]),
                         Ratio(LARGE, 12))
        self.check([[2 * 10 ** by if at < by else int(at == by) * 10 ** by for at in range(12)] for by in range(12)])
        self.assertEqual(self.check([[-LARGE] * 12] * 12), -LARGE)
        self.check([[chance.randint(0, 1) for _ in range(12)] for _ in range(2)])

    def test_known_games(self):
        # Each side hides a number: the worth is one over the sum of the parts.
        self.assertEqual(self.check([[2, 0, 0], [0, 3, 0], [0, 0, 6]]), 1)
        self.assertEqual(self.check([[int(at != by) for at in range(5)] for by in range(5)]), Ratio(4, 5))

    def test_closes(self):
        self.assertIs(closes(COINS, 0, [HALF, HALF], [HALF, HALF]), True)
        self.assertIs(closes([[4, 3], [2, 1]], 3, [1, 0], [0, 1]), True)
        self.assertIs(closes([[4, 3], [2, 1]], Ratio(3), [1, 0], [Ratio(0), 1]), True)
        for one, two in (([1, 0], [HALF, HALF]), ([HALF, HALF], [0, 1]),
                         ([HALF, HALF, 0], [HALF, HALF]), ([HALF, HALF], [HALF, HALF, 0]),
                         ([1], [HALF, HALF]), ([], [HALF, HALF]), ([HALF, HALF], []),
                         ([HALF, Ratio(1, 3)], [HALF, HALF]), ([HALF, HALF], [HALF, Ratio(2, 3)]),
                         ([1, 1], [HALF, HALF]), ([HALF, HALF], [0, 0])):
            self.assertIs(closes(COINS, 0, one, two), False)
        self.assertIs(closes(COINS, 1, [HALF, HALF], [HALF, HALF]), False)
        self.assertIs(closes(COINS, -1, [HALF, HALF], [HALF, HALF]), False)
        self.assertIs(closes(COINS, -1, [1, 0], [HALF, HALF]), False)

    def test_closes_wants_shares_of_at_least_nothing(self):
        self.assertIs(closes([[0, 0], [0, 0]], 0, [2, -1], [HALF, HALF]), False)
        self.assertIs(closes([[0, 0], [0, 0]], 0, [HALF, HALF], [-1, 2]), False)
        self.assertIs(closes([[0, 0], [0, 0]], 0, [1, 0], [0, 1]), True)

    def test_closes_of_one_side_alone(self):
        # Shares that are too good for one side do not show the worth of the other one.
        rows = [[0, 1], [1, 0]]
        self.assertIs(closes(rows, 0, [1, 0], [HALF, HALF]), False)
        self.assertIs(closes(rows, 1, [HALF, HALF], [1, 0]), False)
        self.assertIs(closes(rows, HALF, [HALF, HALF], [HALF, HALF]), True)

    def test_errors(self):
        wide = [0] * 13
        for call in (duel, lambda rows: closes(rows, 0, [1], [1])):
            self.raises(BadNumber, {"name": "rows", "value": 0}, call, [])
            self.raises(TooMany, {"name": "rows", "most": 12}, call, [[]] * 13)
            self.raises(BadNumber, {"name": "columns", "value": 0}, call, [[], wide])
            self.raises(BadNumber, {"name": "columns", "value": 0}, call, [[]])
            self.raises(TooMany, {"name": "columns", "most": 12}, call, [wide, [0]])
            self.raises(WrongLength, {"length": 1}, call, [[0, 0], [0, 0], [0], [0, 0, 0]])
            self.raises(WrongLength, {"length": 13}, call, [[0, 0], wide, [0]])
            self.raises(WrongLength, {"length": 0}, call, [[0], []])

    def test_lists_stay(self):
        rows, one, two = [[1, -1], [-1, 1]], [HALF, HALF], [HALF, HALF]
        duel(rows)
        closes(rows, 0, one, two)
        self.assertEqual((rows, one, two), (COINS, [HALF, HALF], [HALF, HALF]))
