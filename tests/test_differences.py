"""Point 8: meetings and differences."""

import random

from tests.checks import Case
from watchbeats.differences import differences, meetings
from watchbeats.errors import Meets, OtherHours
from watchbeats.lots import Lot
from watchbeats.whole import units


def drawn_lots(seed, many=60, most=14):
    chance = random.Random(seed)
    for _ in range(many):
        hours = chance.randint(1, most)
        yield Lot(hours, chance.sample(range(hours), chance.randint(0, hours)))


class DifferencesTest(Case):

    def test_meetings_count_pairs(self):
        chance = random.Random(8)
        for one in drawn_lots(1):
            other = Lot(one.hours, chance.sample(range(one.hours), chance.randint(0, one.hours)))
            counts = meetings(one, other)
            self.assertEqual(len(counts), one.hours)
            for by in range(one.hours):
                pairs = [(x, y) for x in one.members for y in other.members if (x - y) % one.hours == by]
                self.assertEqual(counts[by], len(pairs))
                self.assertEqual(counts[by], len(one & (other << by)))

    def test_examples(self):
        self.assertEqual(meetings(Lot(4, [0, 1]), Lot(4, [3])), [0, 1, 1, 0])
        self.assertEqual(meetings(Lot(4, [3]), Lot(4, [0, 1])), [0, 0, 1, 1])
        self.assertEqual(differences(Lot(7, [0, 1, 3])), [3, 1, 1, 1, 1, 1, 1])
        self.assertEqual(differences(Lot(5, [])), [0] * 5)
        self.assertEqual(differences(Lot.full(360)), [360] * 360)
        self.assertEqual(differences(Lot(1, [0])), [1])

    def test_other_hours(self):
        self.raises(OtherHours, {}, meetings, Lot(4, [0]), Lot(5, [0]))
        self.raises(OtherHours, {}, meetings, Lot(4, []), Lot(2, []))

    def test_laws(self):
        for lot in drawn_lots(2):
            counts, hours = differences(lot), lot.hours
            self.assertEqual(counts, meetings(lot, lot))
            self.assertEqual(counts[0], len(lot))
            self.assertEqual(counts[1:], counts[:0:-1])
            self.assertEqual(sum(counts), len(lot) ** 2)
            self.assertEqual(differences(lot << 5), counts)
            self.assertEqual(differences(-lot), counts)
            self.assertEqual(differences(~lot), [count + hours - 2 * len(lot) for count in counts])
            for unit in units(hours):
                stretched = differences(lot * unit)
                self.assertEqual([stretched[unit * by % hours] for by in range(hours)], counts)

    def test_direct_sums(self):
        chance = random.Random(3)
        direct = 0
        for one in drawn_lots(4, many=300, most=9):
            hours = one.hours
            other = Lot(hours, chance.sample(range(hours), chance.randint(0, min(3, hours))))
            try:
                total = one + other
            except Meets:
                continue
            direct += 1
            first, second = differences(one), differences(other)
            expected = [sum(first[e] * second[d - e] for e in range(hours)) for d in range(hours)]
            self.assertEqual(differences(total), expected)
        self.assertGreater(direct, 20)

    def test_new_lists(self):
        lot = Lot(3, [0])
        differences(lot).append(1)
        meetings(lot, lot)[0] = 5
        self.assertEqual((differences(lot), meetings(lot, lot)), ([1, 0, 0], [1, 0, 0]))
