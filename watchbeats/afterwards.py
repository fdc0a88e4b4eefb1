"""Afterwards: what looks tell of the weights, and what spreads then cost on average."""

from watchbeats.bits import bits_of, listed
from watchbeats.errors import NeverSeen, NoPlace
from watchbeats.houses import is_cell
from watchbeats.losses import loss
from watchbeats.pasts import left_of
from watchbeats.ratio import Ratio, as_ratio
from watchbeats.shares import check_weights


def after(weights, family, past):
    """The list of the weights of the members after the past was seen."""
    check_weights(weights, family)
    left = left_of(family, past)
    seen = sum([weights[at] for at in left])
    if seen == 0:
        raise NeverSeen()
    weights_now = [Ratio(0)] * len(family)
    for at in left:
        weights_now[at] = as_ratio(weights[at]).over(seen)
    return weights_now


def seen_chances(weights, family, cell):
    """The pairs of each strength that a look at the cell can see and its chance, in ascending order."""
    check_weights(weights, family)
    if not is_cell(family.house, cell):
        raise NoPlace()
    strengths = [watch[cell] for watch in family]
    pairs = []
    for strength in listed(bits_of(strengths)):
        chance = sum([weight for weight, seen in zip(weights, strengths) if seen == strength])
        if chance > 0:
            pairs.append((strength, as_ratio(chance)))
    return pairs


def mean_loss(weights, family, spread):
    """The mean loss of a spread over the members, by their weights."""
    check_weights(weights, family)
    return as_ratio(sum([weight * loss(watch, spread) for weight, watch in zip(weights, family)]))
