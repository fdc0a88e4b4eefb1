"""Point 19: crews."""

import random

from tests.checks import HUGE, Case
from watchbeats.beats import Beat
from watchbeats.crews import Crew
from watchbeats.differences import meetings
from watchbeats.errors import NoPlace, OtherHours
from watchbeats.houses import House
from watchbeats.lots import Lot

HOUSE = House(4, [("east", 3), ("west", 5)])
BEAT = Beat(HOUSE, [0, 0, 1, -1])


def drawn_crews(seed, many=40):
    chance = random.Random(seed)
    for _ in range(many):
        hours = chance.randint(1, 12)
        house = House(hours, [("a", 1), ("b", 2), ("c", 3)])
        beat = Beat(house, [chance.randint(-1, 2) for _ in range(hours)])
        yield Crew(beat, Lot(hours, chance.sample(range(hours), chance.randint(0, hours))))


class CrewTest(Case):

    def test_attributes(self):
        crew = Crew(BEAT, Lot(4, [0, 2]))
        self.assertEqual((crew.beat, crew.starts, len(crew)), (BEAT, Lot(4, [0, 2]), 2))
        self.assertEqual(len(Crew(BEAT, Lot(4, []))), 0)

    def test_other_hours(self):
        for hours in (1, 3, 5, 8):
            self.raises(OtherHours, {}, Crew, BEAT, Lot(hours, [0]))

    def test_row(self):
        crew = Crew(BEAT, Lot(4, [0, 2]))
        self.assertEqual([crew.row(0), crew.row(1)], [[1, 1, 1, 1], [1, 0, 1, 0]])
        for crew in drawn_crews(1):
            hours = crew.beat.house.hours
            for gate in range(3):
                told = [sum(crew.beat[hour - s] == gate for s in crew.starts.members) for hour in range(hours)]
                self.assertEqual(crew.row(gate), told)
                self.assertEqual(crew.row(gate), meetings(crew.beat.lot(gate), -crew.starts))

    def test_row_of_no_gate(self):
        for gate in (-1, 2, -2, HUGE):
            self.raises(NoPlace, {}, Crew(BEAT, Lot(4, [0])).row, gate)

    def test_working(self):
        self.assertEqual(Crew(BEAT, Lot(4, [0, 1])).working(1), Lot(4, [1, 2, 3]))
        for crew in drawn_crews(2):
            hours = crew.beat.house.hours
            for start in crew.starts.members:
                told = Lot(hours, [hour for hour in range(hours) if crew.beat[hour - start] != -1])
                self.assertEqual(crew.working(start), told)
                self.assertEqual(crew.working(start - 5 * hours), told)

    def test_working_of_no_start(self):
        crew = Crew(BEAT, Lot(4, [0, HUGE]))
        self.assertEqual(crew.working(HUGE), Lot(4, [1, 3, 0]))
        for start in (1, 2, -3, HUGE + 2):
            self.raises(NoPlace, {}, crew.working, start)

    def test_turn(self):
        for crew in drawn_crews(3, many=10):
            for by in (0, 1, -1, HUGE, -HUGE):
                turned = crew << by
                self.assertEqual(turned, Crew(crew.beat, crew.starts << by))
                hours = crew.beat.house.hours
                self.assertEqual(turned.row(0), [crew.row(0)[(hour - by) % hours] for hour in range(hours)])

    def test_equality(self):
        crew = Crew(BEAT, Lot(4, [0, 2]))
        self.assertIs(crew == Crew(Beat(HOUSE, [0, 0, 1, -1]), Lot(4, [6, 0])), True)
        self.assertIs(crew != Crew(BEAT, Lot(4, [2, 0])), False)
        for other in (Crew(BEAT, Lot(4, [0])), Crew(BEAT << 1, Lot(4, [0, 2])), BEAT, Lot(4, [0, 2]), None):
            self.assertIs(crew == other, False)
            self.assertIs(crew != other, True)

    def test_new_lists(self):
        crew = Crew(BEAT, Lot(4, [0, 2]))
        crew.row(0).append(5)
        self.assertEqual(crew.row(0), [1, 1, 1, 1])
