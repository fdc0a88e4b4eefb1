"""Differences: how often two lots meet when one of them is turned."""

from watchbeats.errors import OtherHours


def meetings(one, other):
    """Entry d is the number of pairs x of one and y of other with x - y = d."""
    if one.hours != other.hours:
        raise OtherHours()
    counts = [0] * one.hours
    for x in one:
        for y in other:
            by = (x - y) % one.hours
            counts[by] = counts[by] + 1
    return counts


def differences(lot):
    """The meetings of a lot with itself."""
    return meetings(lot, lot)
