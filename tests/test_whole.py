"""Point 7: divisors and units."""

from tests.checks import HUGE, Case
from watchbeats.errors import BadNumber
from watchbeats.whole import divisors, units


class WholeTest(Case):

    def test_examples(self):
        self.assertEqual(divisors(12), [1, 2, 3, 4, 6, 12])
        self.assertEqual(units(12), [1, 5, 7, 11])
        self.assertEqual((divisors(1), units(1)), ([1], [1]))
        self.assertEqual(divisors(359), [1, 359])
        self.assertEqual(len(divisors(360)), 24)
        self.assertEqual(len(units(360)), 96)

    def test_all(self):
        for number in range(1, 361):
            parts = divisors(number)
            self.assertEqual(parts, sorted(number // part for part in parts))
            self.assertEqual({k for k in range(1, number + 1) if number % k == 0}, set(parts))
            shared = {k for part in parts[1:] for k in range(part, number + 1, part)}
            self.assertEqual(units(number), [k for k in range(1, number + 1) if k not in shared])

    def test_new_lists(self):
        divisors(6).append(7)
        units(6).append(7)
        self.assertEqual((divisors(6), units(6)), ([1, 2, 3, 6], [1, 5]))

    def test_wrong_numbers(self):
        for number in (0, -1, 361, HUGE, -HUGE):
            self.raises(BadNumber, {"name": "number", "value": number}, divisors, number)
            self.raises(BadNumber, {"name": "number", "value": number}, units, number)
