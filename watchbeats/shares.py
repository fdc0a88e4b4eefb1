"""Shares: numbers of at least 0 that add up to 1."""

from watchbeats.errors import BadShares, WrongLength


def are_shares(numbers):
    """True if the numbers are at least 0 and add up to 1."""
    return all([number >= 0 for number in numbers]) and sum(numbers) == 1


def check_shares(weights):
    """Raises BadShares unless the weights are shares."""
    if not are_shares(weights):
        raise BadShares()


def check_weights(weights, family):
    """Raises WrongLength or BadShares unless the weights are shares, one for each member."""
    if len(weights) != len(family):
        raise WrongLength(len(weights))
    check_shares(weights)
