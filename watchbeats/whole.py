"""Divisors and units of whole numbers."""

from math import gcd

from watchbeats.errors import BadNumber

_MOST = 360


def divisors(number):
    """The ascending list of the positive divisors of a number from 1 to 360."""
    _check(number)
    return [k for k in range(1, number + 1) if number % k == 0]


def units(number):
    """The ascending list of the numbers up to this one that share no divisor with it but 1."""
    _check(number)
    return [k for k in range(1, number + 1) if gcd(k, number) == 1]


def _check(number):
    if number < 1 or number > _MOST:
        raise BadNumber("number", number)
