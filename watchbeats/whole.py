"""Whole numbers: their divisors and units, and whether they are within bounds."""

from math import gcd

from watchbeats.errors import BadNumber

_MOST = 360


def divisors(number):
    """The ascending list of the positive divisors of a number from 1 to 360."""
    check_number("number", number, 1, _MOST)
    return [k for k in range(1, number + 1) if number % k == 0]


def units(number):
    """The ascending list of the numbers up to this one that share no divisor with it but 1."""
    check_number("number", number, 1, _MOST)
    return [k for k in range(1, number + 1) if gcd(k, number) == 1]


def check_number(name, number, least, most):
    """Raises BadNumber under the name unless the number is from `least` to `most`."""
    if number < least or number > most:
        raise BadNumber(name, number)
