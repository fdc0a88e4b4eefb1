"""Fractions in lowest terms."""

from math import gcd, lcm

from watchbeats.errors import BadNumber, ZeroUnder


class Ratio:
    """The fraction top / under in lowest terms, with `under` above 0."""

    MOST_POWER = 64

    def __init__(self, top, under=1):
        if under == 0:
            raise ZeroUnder()
        shared = gcd(top, under)
        if under < 0:
            shared = -shared
        self.top = top // shared
        self.under = under // shared

    @property
    def whole(self):
        """True if the value is a whole number."""
        return self.under == 1

    def over(self, number):
        """The quotient by a number, a Ratio."""
        divisor = as_ratio(number)
        return Ratio(self.top * divisor.under, self.under * divisor.top)

    def floor(self):
        """The value rounded down."""
        return self.top // self.under

    def ceiling(self):
        """The value rounded up."""
        return -(-self.top // self.under)

    def __add__(self, other):
        if not isinstance(other, (int, Ratio)):
            return NotImplemented
        second = as_ratio(other)
        return Ratio(self.top * second.under + second.top * self.under, self.under * second.under)

    def __radd__(self, other):
        return self + other

    def __sub__(self, other):
        return self + -other

    def __rsub__(self, other):
        return -self + other

    def __mul__(self, other):
        if not isinstance(other, (int, Ratio)):
            return NotImplemented
        second = as_ratio(other)
        return Ratio(self.top * second.top, self.under * second.under)

    def __rmul__(self, other):
        return self * other

    def __floordiv__(self, other):
        if not isinstance(other, (int, Ratio)):
            return NotImplemented
        return self.over(other).floor()

    def __mod__(self, other):
        if not isinstance(other, (int, Ratio)):
            return NotImplemented
        return self - as_ratio(other) * (self // other)

    def __pow__(self, other):
        if other < 0 or other > Ratio.MOST_POWER:
            raise BadNumber("power", other)
        product = Ratio(1)
        for _ in range(other):
            product = product * self
        return product

    def __neg__(self):
        return Ratio(-self.top, self.under)

    def __abs__(self):
        return Ratio(abs(self.top), self.under)

    def __bool__(self):
        return bool(self.top != 0)

    def __eq__(self, other):
        if isinstance(other, Ratio):
            return self.top == other.top and self.under == other.under
        if isinstance(other, bool):
            return False
        return isinstance(other, int) and self.under == 1 and self.top == other

    def __lt__(self, other):
        if not isinstance(other, (int, Ratio)):
            return NotImplemented
        return _lead(self, other) < 0

    def __le__(self, other):
        if not isinstance(other, (int, Ratio)):
            return NotImplemented
        return _lead(self, other) <= 0

    def __gt__(self, other):
        if not isinstance(other, (int, Ratio)):
            return NotImplemented
        return _lead(self, other) > 0

    def __ge__(self, other):
        if not isinstance(other, (int, Ratio)):
            return NotImplemented
        return _lead(self, other) >= 0

    def __str__(self):
        if self.under == 1:
            return str(self.top)
        return f"{self.top}/{self.under}"


def _lead(ratio, number):
    """A whole number with the sign of the difference of the two."""
    second = as_ratio(number)
    return ratio.top * second.under - second.top * ratio.under


def as_ratio(number):
    """The Ratio with the value of a whole number or a Ratio."""
    if isinstance(number, Ratio):
        return number
    return Ratio(number)


def over_one(numbers):
    """The least `under` that serves all the numbers, and the list of their tops above it."""
    ratios = [as_ratio(number) for number in numbers]
    under = 1
    for ratio in ratios:
        under = lcm(under, ratio.under)
    return under, [ratio.top * (under // ratio.under) for ratio in ratios]


def greatest(ratios):
    """The greatest of a list of Ratios that is not empty."""
    most = ratios[0]
    for ratio in ratios:
        if ratio > most:
            most = ratio
    return most
