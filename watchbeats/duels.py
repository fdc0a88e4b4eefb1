"""Duels: games of numbers between two sides."""

from watchbeats.errors import BadNumber, TooMany, WrongLength
from watchbeats.ratio import Ratio, over_one
from watchbeats.saddle import Saddle
from watchbeats.shares import are_shares

_MOST = 12


class Duel:
    """The worth of a game and the shares of both sides that show it."""

    def __init__(self, worth, shares_one, shares_two):
        self.worth = worth
        self.shares_one = shares_one
        self.shares_two = shares_two


def duel(rows):
    """The Duel of a list of rows of numbers, which are paid to the side that picks the row."""
    _check(rows)
    under, tops = over_one([number for row in rows for number in row])
    # The saddle wants entries above 0; the same number in each entry changes no shares.
    lift = 1 - min([int(top) for top in tops])
    wide = len(rows[0])
    columns = [[top + lift for top in tops[at::wide]] for at in range(wide)]
    saddle = Saddle(len(rows))
    wanted = [0]
    while wanted:
        saddle.take(columns[wanted[0]], wanted[0])
        wanted = [at for at, column in enumerate(columns) if saddle.wants(column)]
    shares_two = [Ratio(0)] * wide
    for at, share in saddle.column_shares():
        shares_two[at] = share
    return Duel((saddle.level() - lift).over(under), saddle.line_weights(), shares_two)


def closes(rows, worth, shares_one, shares_two):
    """True if these are shares of the rows and of the columns that show this worth."""
    _check(rows)
    columns = [[row[at] for row in rows] for at in range(len(rows[0]))]
    if len(shares_one) != len(rows) or len(shares_two) != len(columns):
        return False
    return (are_shares(shares_one) and are_shares(shares_two)
            and all([_mean(shares_one, column) >= worth for column in columns])
            and all([_mean(shares_two, row) <= worth for row in rows]))


def _check(rows):
    if len(rows) == 0:
        raise BadNumber("rows", 0)
    if len(rows) > _MOST:
        raise TooMany("rows", _MOST)
    if len(rows[0]) == 0:
        raise BadNumber("columns", 0)
    if len(rows[0]) > _MOST:
        raise TooMany("columns", _MOST)
    for row in rows:
        if len(row) != len(rows[0]):
            raise WrongLength(len(row))


def _mean(shares, numbers):
    return sum([share * number for share, number in zip(shares, numbers)])
