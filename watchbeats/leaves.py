"""Leaves: which members looks can leave."""

from watchbeats.pasts import check_looks, left_of, pasts
from watchbeats.tables import MOST_LOOKS, check_cells


def leaves(family, *, looks=0):
    """The pairs of the indexes that some past leaves and the first past of the fewest looks that leaves them."""
    check_looks(looks, MOST_LOOKS)
    check_cells(family.house)
    found = {}
    for past in pasts(family, looks=looks):
        left = left_of(family, past)
        # An index has one digit, so these words stand in the order of the tuples of indexes.
        word = "".join([str(index) for index in left])
        if word not in found or len(past) < len(found[word][1]):
            found[word] = (tuple(left), past)
    return [found[word] for word in sorted([str(word) for word in found])]
