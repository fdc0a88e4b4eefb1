"""Point 14: partners, the starts that meet each hour once."""

import itertools

from tests.checks import Case, spent
from watchbeats.errors import BadNumber, EmptyLot
from watchbeats.lots import Lot
from watchbeats.partners import count_starts_once, starts_once


def all_partners(lot):
    """The members of all partners, by going through all lots of the one size that fits."""
    size, rest = divmod(lot.hours, len(lot))
    if rest:
        return []
    found = []
    for starts in itertools.combinations(range(lot.hours), size):
        if len({(x + s) % lot.hours for x in lot.members for s in starts}) == lot.hours:
            found.append(list(starts))
    return found


class PartnersTest(Case):

    def test_example(self):
        one, two = starts_once(Lot(4, [0, 1]))
        self.assertEqual([one.members, two.members], [[0, 2], [1, 3]])

    def test_all_lots_of_small_rings(self):
        for hours in range(1, 9):
            for bits in range(1, 1 << hours):
                lot = Lot(hours, [hour for hour in range(hours) if bits >> hour & 1])
                found = list(starts_once(lot))
                self.assertEqual([partner.members for partner in found], all_partners(lot))
                self.assertEqual(count_starts_once(lot), len(found))
                with_zero = [partner for partner in found if 0 in partner.members]
                self.assertEqual(len(found), len(lot) * len(with_zero))

    def test_are_direct_sums_with_all_hours(self):
        for members in ([0, 8], [0, 1], [0, 4, 8, 12], [0, 1, 8, 9], list(range(16)), [3]):
            lot = Lot(16, members)
            found = list(starts_once(lot))
            self.assertEqual([partner.members for partner in found], all_partners(lot))
            for partner in found:
                self.assertEqual(lot + partner, Lot.full(16))
            self.assertEqual(count_starts_once(lot), len(found))

    def test_counts(self):
        self.assertEqual(count_starts_once(Lot(16, [0, 8])), 256)
        self.assertEqual(count_starts_once(Lot(16, [0])), 1)
        self.assertEqual(count_starts_once(Lot.full(16)), 16)
        self.assertEqual(count_starts_once(Lot(16, [0, 1, 2])), 0)
        self.assertEqual(list(starts_once(Lot(16, [0, 1, 5, 6]))), [])

    def test_errors(self):
        for call in (lambda lot: spent(starts_once(lot)), count_starts_once):
            self.raises(BadNumber, {"name": "hours", "value": 17}, call, Lot(17, []))
            self.raises(BadNumber, {"name": "hours", "value": 360}, call, Lot.full(360))
            self.raises(EmptyLot, {}, call, Lot(16, []))
        self.raises(EmptyLot, {}, next, starts_once(Lot(3, [])))
