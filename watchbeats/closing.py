"""The game of a house that draws and a caller who looks and tries, closed from both sides."""

from watchbeats.ratio import as_ratio
from watchbeats.saddle import Saddle
from watchbeats.sights import Sight


class Stand:
    """Groups of equally many watches of one house, and all that can be seen of them with the pasts of a list."""

    def __init__(self, groups, past_list, tries):
        self.each = len(groups[0])
        self.top_loss = tries * max([int(stake) for stake in groups[0][0].house.stakes])
        self.sights = [Sight(groups, past, tries) for past in past_list]


class Closed:
    """The value of a game, the weights of the groups, the prices, and a row whose gap is the value."""

    def __init__(self, value, weights, prices, least_row):
        self.value = value
        self.weights = weights
        self.prices = prices
        self.least_row = least_row


def close(stand, bound):
    """The Closed game of a Stand with a bound; the watches of a group share its weight equally.

    There are too many rows to go through them all, so only those come into the saddle that leave least at some time.
    """
    limit = as_ratio(bound)
    # The saddle wants entries above 0; the same number in each entry changes no weights.
    lift = 1 + stand.each * max(0, limit.under * stand.top_loss - limit.top)
    saddle = Saddle(len(stand.sights[0].fit_counts))
    row, column = _least_row(stand, limit, lift, saddle.pays)
    while saddle.wants(column):
        saddle.take(column, row)
        row, column = _least_row(stand, limit, lift, saddle.pays)
    value = (saddle.level() - lift).over(limit.under * stand.each)
    prices = [(share, past, spread) for (past, spread), share in saddle.column_shares()]
    return Closed(value, saddle.line_weights(), prices, row)


def _least_row(stand, limit, lift, weights):
    """The row that leaves least with these weights, and its column of entries for the saddle."""
    left = [_least_left(sight, limit, weights) for sight in stand.sights]
    sight = stand.sights[left.index(min([int(number) for number in left]))]
    spread = sight.worst_spread(weights)
    losses = sight.losses_by(spread)
    column = [lift + limit.top * many - limit.under * lost for many, lost in zip(sight.fit_counts, losses)]
    return (sight.past, spread), column


def _least_left(sight, limit, weights):
    """What the worst spread after a past leaves of the bound, times the `under` of the bound."""
    fitting = sum([weight * many for weight, many in zip(weights, sight.fit_counts)])
    return limit.top * fitting - limit.under * sight.most_lost(weights)
