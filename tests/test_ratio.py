"""Point 4: fractions."""

import itertools
from fractions import Fraction

from tests.checks import HUGE, Case
from watchbeats.errors import BadNumber, ZeroUnder
from watchbeats.ratio import Ratio, as_ratio

PAIRS = [(0, 1), (1, 1), (-1, 1), (4, 1), (-7, 1), (1, 2), (-3, 2), (6, -4), (5, 7), (-22, 7), (HUGE, HUGE - 1),
         (-HUGE, 2), (1, HUGE), (HUGE, 1)]
WHOLE = [0, 1, -1, 3, -12, HUGE, -HUGE]


def fraction(number):
    return Fraction(number.top, number.under) if isinstance(number, Ratio) else Fraction(number)


class RatioTest(Case):

    def same(self, ratio, expected):
        self.assertIs(ratio.__class__, Ratio)
        self.assertIs(ratio.top.__class__, int)
        self.assertIs(ratio.under.__class__, int)
        self.assertEqual((ratio.top, ratio.under), (expected.numerator, expected.denominator))

    def couples(self):
        """Pairs of numbers of which at least one is a Ratio."""
        ratios = [Ratio(*pair) for pair in PAIRS]
        for one, two in itertools.product(ratios, ratios):
            yield one, two
        for one, two in itertools.product(ratios, WHOLE):
            yield one, two
            yield two, one

    def test_lowest_terms(self):
        told = [(Ratio(*pair).top, Ratio(*pair).under) for pair in [(6, -4), (-6, -4), (0, -9), (0, 5), (10, 5)]]
        self.assertEqual(told, [(-3, 2), (3, 2), (0, 1), (0, 1), (2, 1)])
        self.assertEqual((Ratio(7).top, Ratio(7).under), (7, 1))

    def test_zero_under(self):
        for top in (0, 1, -1, HUGE):
            self.raises(ZeroUnder, {}, Ratio, top, 0)

    def test_sums_differences_products(self):
        for one, two in self.couples():
            self.same(one + two, fraction(one) + fraction(two))
            self.same(one - two, fraction(one) - fraction(two))
            self.same(one * two, fraction(one) * fraction(two))

    def test_quotients(self):
        for one, two in self.couples():
            if isinstance(one, Ratio) and two != 0:
                self.assertIs((one // two).__class__, int)
                self.assertEqual(one // two, fraction(one) // fraction(two))
                self.same(one % two, fraction(one) % fraction(two))
                self.same(one.over(two), fraction(one) / fraction(two))

    def test_no_quotient_by_zero(self):
        for one in (Ratio(0), Ratio(3, 2), Ratio(-HUGE)):
            for zero in (0, Ratio(0)):
                self.raises(ZeroUnder, {}, lambda: one // zero)
                self.raises(ZeroUnder, {}, lambda: one % zero)
                self.raises(ZeroUnder, {}, one.over, zero)

    def test_powers(self):
        for pair in PAIRS:
            for power in (0, 1, 2, 3, 10, 63, 64):
                self.same(Ratio(*pair) ** power, Fraction(*pair) ** power)
        self.same(Ratio(0) ** 0, Fraction(1))

    def test_no_other_powers(self):
        for power in (-1, 65, HUGE, -HUGE):
            self.raises(BadNumber, {"name": "power", "value": power}, lambda: Ratio(1, 2) ** power)

    def test_negative_and_absolute(self):
        for pair in PAIRS:
            self.same(-Ratio(*pair), -Fraction(*pair))
            self.same(abs(Ratio(*pair)), abs(Fraction(*pair)))

    def test_truth(self):
        self.assertIs(bool(Ratio(0, 5)), False)
        for pair in PAIRS[1:]:
            self.assertIs(bool(Ratio(*pair)), True)

    def test_comparisons(self):
        for one, two in self.couples():
            first, second = fraction(one), fraction(two)
            self.assertIs(one == two, first == second)
            self.assertIs(one != two, first != second)
            self.assertIs(one < two, first < second)
            self.assertIs(one <= two, first <= second)
            self.assertIs(one > two, first > second)
            self.assertIs(one >= two, first >= second)

    def test_equals_nothing_else(self):
        for other in (None, "1", "3/2", [1], (1, 1), object(), True, 1.5):
            self.assertIs(Ratio(3, 2) == other, False)
            self.assertIs(Ratio(1) == other, False)
            self.assertIs(Ratio(1) != other, True)
            self.assertIs(other == Ratio(1), False)

    def test_no_order_with_anything_else(self):
        for other in (None, "1", [1]):
            with self.assertRaises(TypeError):
                Ratio(1) < other
            with self.assertRaises(TypeError):
                Ratio(1) + other

    def test_floor_and_ceiling(self):
        told = [(Ratio(*pair).floor(), Ratio(*pair).ceiling()) for pair in [(-3, 2), (3, 2), (4, 1), (-4, 1), (0, 1)]]
        self.assertEqual(told, [(-2, -1), (1, 2), (4, 4), (-4, -4), (0, 0)])
        self.assertEqual(Ratio(HUGE, 10).floor(), HUGE // 10)
        self.assertEqual(Ratio(HUGE, 10).ceiling(), HUGE // 10 + 1)
        self.assertIs(Ratio(3, 2).floor().__class__, int)

    def test_whole(self):
        self.assertIs(Ratio(8, 4).whole, True)
        self.assertIs(Ratio(0).whole, True)
        self.assertIs(Ratio(8, 3).whole, False)

    def test_text(self):
        told = [str(Ratio(*pair)) for pair in [(6, -4), (4, 1), (0, 7), (-4, 2), (1, 3)]]
        self.assertEqual(told, ["-3/2", "4", "0", "-2", "1/3"])
        self.assertEqual(str(Ratio(-HUGE, HUGE - 1)), "-" + "9" * 60 + "/" + "9" * 59 + "8")

    def test_as_ratio(self):
        for number in WHOLE:
            self.same(as_ratio(number), Fraction(number))
        for pair in PAIRS:
            self.same(as_ratio(Ratio(*pair)), Fraction(*pair))

    def test_operands_stay(self):
        one, two = Ratio(1, 2), Ratio(3, 4)
        for told in (one + two, one - 1, 2 * one, one // two, one % two, one ** 5, -one, abs(one), one.over(two)):
            self.assertIsNot(told, one)
        self.assertEqual((one.top, one.under, two.top, two.under), (1, 2, 3, 4))
