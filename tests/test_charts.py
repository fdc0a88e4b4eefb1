"""Point 23: charts."""

from tests.brute import chances, drawn_watch
from tests.checks import Case
from watchbeats.beats import Beat
from watchbeats.charts import chart
from watchbeats.crews import Crew
from watchbeats.houses import House
from watchbeats.lots import Lot
from watchbeats.plans import Plan
from watchbeats.watches import Watch


class ChartTest(Case):

    def test_example(self):
        house = House(4, [("east", 3), ("west", 5)])
        crew = Crew(Beat(house, [0, 0, 1, -1]), Lot(4, [0, 2]))
        self.assertEqual(chart(Plan(house, crew).watch()),
                         ["gate      0  1  2  3", "east      1  1  1  1", "west      1  0  1  0"])

    def test_smallest(self):
        self.assertEqual(chart(Watch(House(1, [("a", 0)]), [[0]])), ["gate      0", "a         0"])

    def test_widest(self):
        rows = [[96 - hour for hour in range(24)], [hour // 3 for hour in range(24)]]
        told = chart(Watch(House(24, [("abcdefgh", 60), ("gate", 1)]), rows))
        self.assertEqual(told[0], "gate      0  1  2  3  4  5  6  7  8  9 10 11 12 13 14 15 16 17 18 19 20 21 22 23")
        self.assertEqual(told[1], "abcdefgh 96 95 94 93 92 91 90 89 88 87 86 85 84 83 82 81 80 79 78 77 76 75 74 73")
        self.assertEqual(told[2], "gate      0  0  0  1  1  1  2  2  2  3  3  3  4  4  4  5  5  5  6  6  6  7  7  7")

    def test_four_gates(self):
        house = House(12, [("a", 1), ("bb", 2), ("ccc", 3), ("dddd", 4)])
        watch = drawn_watch(chances(1), house, most=96)
        told = chart(watch)
        self.assertEqual([line[:8].rstrip() for line in told], ["gate", "a", "bb", "ccc", "dddd"])
        self.assertEqual({len(line) for line in told}, {8 + 3 * 12})
        for line, row in zip(told, [list(range(12))] + watch.rows):
            self.assertEqual([int(line[at:at + 3]) for at in range(8, 44, 3)], row)
            self.assertEqual([line[at + 2] for at in range(8, 44, 3)], [str(number)[-1] for number in row])

    def test_new_lists(self):
        watch = Watch(House(1, [("a", 0)]), [[5]])
        chart(watch).clear()
        self.assertEqual(len(chart(watch)), 2)
        self.assertEqual(watch.rows, [[5]])
