"""Point 18: beats."""

from tests.checks import HUGE, Case
from watchbeats.beats import Beat
from watchbeats.errors import BadNumber, NoPlace, WrongLength
from watchbeats.houses import House
from watchbeats.lots import Lot

HOUSE = House(4, [("east", 3), ("west", 5)])
STEPS = [0, 0, 1, -1]


class BeatTest(Case):

    def test_attributes(self):
        beat = Beat(HOUSE, STEPS)
        self.assertEqual((beat.house, beat.steps), (HOUSE, (0, 0, 1, -1)))
        self.assertIs(beat.steps.__class__, tuple)

    def test_length(self):
        for steps in ([], [9] * 3, [9] * 5):
            self.raises(WrongLength, {"length": len(steps)}, Beat, HOUSE, steps)

    def test_steps(self):
        for step in (-2, 2, HUGE, -HUGE):
            self.raises(BadNumber, {"name": "step", "value": step}, Beat, HOUSE, [-1, 1, step, 7])
        self.assertEqual(Beat(House(1, [("a", 0)]), [0]).steps, (0,))
        self.raises(BadNumber, {"name": "step", "value": 1}, Beat, House(1, [("a", 0)]), [1])

    def test_item(self):
        beat = Beat(HOUSE, STEPS)
        for at in list(range(-9, 9)) + [HUGE, -HUGE]:
            self.assertEqual(beat[at], STEPS[at % 4])

    def test_turn(self):
        beat = Beat(HOUSE, STEPS)
        self.assertEqual((beat << 1).steps, (-1, 0, 0, 1))
        for by in (0, 1, -1, 2, 7, HUGE, -HUGE):
            turned = beat << by
            self.assertEqual(turned.house, HOUSE)
            self.assertEqual([turned[at] for at in range(4)], [beat[at - by] for at in range(4)])
        self.assertEqual(beat.steps, tuple(STEPS))

    def test_lot(self):
        beat = Beat(HOUSE, STEPS)
        self.assertEqual([beat.lot(gate) for gate in (0, 1, -1)], [Lot(4, [0, 1]), Lot(4, [2]), Lot(4, [3])])
        self.assertEqual(Beat(HOUSE, [1] * 4).lot(0), Lot(4, []))
        for gate in (-2, 2, HUGE, -HUGE):
            self.raises(NoPlace, {}, beat.lot, gate)

    def test_equality(self):
        beat = Beat(HOUSE, STEPS)
        self.assertIs(beat == Beat(House(4, [("east", 3), ("west", 5)]), list(STEPS)), True)
        self.assertIs(beat != Beat(HOUSE, STEPS), False)
        for other in (Beat(HOUSE, STEPS[::-1]), Beat(House(4, [("east", 3), ("west", 6)]), STEPS), STEPS, None):
            self.assertIs(beat == other, False)
            self.assertIs(beat != other, True)

    def test_list_is_copied(self):
        steps = list(STEPS)
        beat = Beat(HOUSE, steps)
        steps[0] = 1
        self.assertEqual(beat.steps, tuple(STEPS))
