"""Losses: what a spread of tries costs the house."""

from watchbeats.spreads import total_tries


def loss(watch, spread):
    """The sum of the stakes where the tries are above the strength."""
    total_tries(watch.house, spread)
    return sum([watch.house.stakes[gate] for gate, hour, tries in spread if tries > watch[gate, hour]])
