"""Point 49: weights as tickets."""

import math

from tests.brute import chances, drawn_weights
from tests.checks import HUGE, Case
from watchbeats.errors import BadNumber, BadShares, NoPlace, TooMany
from watchbeats.ratio import Ratio
from watchbeats.tickets import Tickets


class TicketsTest(Case):

    def check(self, weights):
        """Holds the tickets against the list of all of them."""
        tickets = Tickets(weights)
        told = [index for index, weight in enumerate(weights) for _ in range((weight * tickets.total + Ratio(0)).top)]
        self.assertEqual(tickets.total, math.lcm(*[(weight + Ratio(0)).under for weight in weights]))
        self.assertEqual([tickets.ticket(number) for number in range(tickets.total)], told)
        self.assertEqual([tickets.many(index) for index in range(len(weights))],
                         [told.count(index) for index in range(len(weights))])
        for number in (-1, tickets.total, HUGE, -HUGE):
            self.raises(NoPlace, {}, tickets.ticket, number)
        for index in (-1, len(weights), HUGE, -HUGE):
            self.raises(NoPlace, {}, tickets.many, index)

    def test_small(self):
        tickets = Tickets([Ratio(1, 2), Ratio(1, 6), Ratio(1, 3)])
        self.assertEqual([tickets.total, tickets.many(0), tickets.many(1), tickets.many(2)], [6, 3, 1, 2])
        self.assertEqual([tickets.ticket(number) for number in range(6)], [0, 0, 0, 1, 2, 2])

    def test_all_tickets(self):
        for weights in ([1], [0, 1], [1, 0, 0], [0, 0, Ratio(1, 2), 0, Ratio(1, 2), 0], [Ratio(1, 12)] * 12):
            self.check(weights)
        chance = chances(1)
        for _ in range(60):
            self.check(drawn_weights(chance, chance.randint(1, 12)))

    def test_kinds_of_values(self):
        tickets = Tickets([Ratio(1, 2), Ratio(1, 2)])
        self.assertEqual([tickets.total.__class__, tickets.many(0).__class__, tickets.ticket(1).__class__], [int] * 3)

    def test_long_totals(self):
        # Two numbers below the line that share no divisor, so the total has 120 digits.
        one, two = 10 ** 60 - 1, 10 ** 60 - 2
        weights = [Ratio(1, one), Ratio(0), Ratio(1, two), 1 - Ratio(1, one) - Ratio(1, two)]
        tickets = Tickets(weights)
        self.assertEqual(tickets.total, one * two)
        self.assertEqual([tickets.many(at) for at in range(4)], [two, 0, one, one * two - one - two])
        for number, index in ((0, 0), (two - 1, 0), (two, 2), (two + one - 1, 2), (two + one, 3),
                              (one * two - 1, 3)):
            self.assertEqual(tickets.ticket(number), index)
        for number in (-1, one * two, one * two + 1):
            self.raises(NoPlace, {}, tickets.ticket, number)
        unders = [HUGE - at for at in range(11)]
        weights = [Ratio(1, under) for under in unders]
        weights.append(1 - sum(weights))
        tickets = Tickets(weights)
        self.assertEqual(tickets.total, math.lcm(*unders))
        first = 0
        for at, weight in enumerate(weights):
            many = tickets.many(at)
            self.assertEqual(weight * tickets.total, many)
            self.assertEqual([tickets.ticket(first), tickets.ticket(first + many - 1)], [at, at])
            first += many
        self.raises(NoPlace, {}, tickets.ticket, first)

    def test_a_list_that_changes_later(self):
        weights = [Ratio(1, 2), Ratio(1, 2)]
        tickets = Tickets(weights)
        weights.clear()
        self.assertEqual([tickets.total, tickets.ticket(1), tickets.many(1)], [2, 1, 1])

    def test_errors_in_order(self):
        self.raises(BadNumber, {"name": "weights", "value": 0}, Tickets, [])
        self.raises(TooMany, {"name": "weights", "most": 12}, Tickets, [Ratio(1, 13)] * 13)
        self.raises(TooMany, {"name": "weights", "most": 12}, Tickets, [-1] * 13)
        for weights in ([0], [2], [-1], [Ratio(1, 2)], [2, -1], [Ratio(3, 2), Ratio(-1, 2)], [Ratio(1, 12)] * 11,
                        [1, Ratio(1, HUGE)], [Ratio(1, HUGE), 1 - Ratio(1, HUGE - 1)]):
            self.raises(BadShares, {}, Tickets, weights)
