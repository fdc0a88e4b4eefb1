"""What several tests need."""

import unittest

from watchbeats.errors import BadPast, BadShares, BadSpread, TooMany, WrongLength
from watchbeats.ratio import Ratio

HUGE = 10 ** 60 - 1


class Case(unittest.TestCase):
    """A test case that can check an error together with its attributes."""

    def raises(self, kind, told, call, *args, **more):
        """The call raises exactly this error with exactly these attributes, which are told as a dict."""
        with self.assertRaises(kind) as caught:
            call(*args, **more)
        self.assertIs(caught.exception.__class__, kind)
        self.assertEqual(vars(caught.exception), told)
        for name in told:
            self.assertIs(vars(caught.exception)[name].__class__, told[name].__class__)
        return caught.exception

    def refuses_bad_pasts(self, call):
        """The errors of total_looks, in a call that takes a past on a house of two gates and 3 hours."""
        for gate, hour in ((-1, 0), (2, 0), (0, -1), (0, 3), (HUGE, 0), (0, HUGE)):
            self.raises(BadPast, {"index": 0}, call, ((gate, hour, 1),))
        for strength in (-1, 97, HUGE, -HUGE):
            self.raises(BadPast, {"index": 1}, call, ((0, 0, 96), (0, 1, strength)))
        self.raises(BadPast, {"index": 1}, call, ((0, 1, 1), (0, 1, 1)))
        self.raises(BadPast, {"index": 1}, call, ((1, 0, 1), (0, 2, 1)))
        self.raises(BadPast, {"index": 2}, call, ((0, 0, 0), (0, 1, 0), (0, 0, 1)))
        self.raises(BadPast, {"index": 4}, call, ((0, 0, 0), (0, 1, 0), (0, 2, 0), (1, 0, 0), (1, 0, 0)))
        self.raises(TooMany, {"name": "looks", "most": 3}, call, ((0, 0, 1), (0, 1, 0), (0, 2, 1), (1, 0, 0)))

    def refuses_bad_spreads(self, call):
        """The errors of total_tries, in a call that takes a spread on a house of two gates and 3 hours."""
        most = {"name": "tries", "most": 6}
        for gate, hour in ((-1, 0), (2, 0), (0, -1), (0, 3), (HUGE, 0), (0, HUGE)):
            self.raises(BadSpread, {"index": 0}, call, ((gate, hour, 1),))
        for tries in (0, -1, -HUGE):
            self.raises(BadSpread, {"index": 1}, call, ((0, 0, 1), (1, 0, tries)))
        self.raises(BadSpread, {"index": 1}, call, ((0, 1, 1), (0, 1, 2)))
        self.raises(BadSpread, {"index": 2}, call, ((0, 0, 1), (1, 0, 1), (0, 2, 1)))
        self.raises(BadSpread, {"index": 1}, call, ((0, 0, 7), (0, 0, 1)))
        self.raises(TooMany, most, call, ((0, 0, 7),))
        self.raises(TooMany, most, call, ((0, 0, 3), (0, 1, 3), (0, 2, 1)))

    def refuses_bad_weights(self, call, many):
        """The errors of weights, in a call that takes one for each of so many members, at least two."""
        ones = [1] + [0] * (many - 1)
        for weights in ([], ones[:-1], ones + [0], [-1] * (many + 1)):
            self.raises(WrongLength, {"length": len(weights)}, call, weights)
        half = Ratio(1, 2)
        for weights in ([0] * many, [2] + [0] * (many - 1), [half] + [0] * (many - 1), [2, -1] + [0] * (many - 2),
                        [half, half + Ratio(1, HUGE)] + [0] * (many - 2),
                        [1 + half, -half] + [0] * (many - 2), [HUGE] * many):
            self.raises(BadShares, {}, call, weights)


def spent(generator):
    """Iterates over a generator to its end."""
    return list(generator)
