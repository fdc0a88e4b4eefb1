"""Point 59: written numbers, lots, spreads and pasts."""

import itertools

from tests.brute import all_cells, all_pasts, all_spreads, chances, drawn_watch
from tests.checks import HUGE, Case
from watchbeats.errors import BadText
from watchbeats.houses import House
from watchbeats.lots import Lot
from watchbeats.ratio import Ratio
from watchbeats.words import (read_lot, read_number, read_past, read_spread, write_lot, write_number, write_past,
                              write_spread)

HOUSE = House(12, [("east", 3), ("west", 5)])
SMALL = House(3, [("east", 3), ("west", 5)])
SIGNS = " -/0123456789abeofn@*=;.,+_~"


def near(text):
    """All texts with one sign more, one less, or another one."""
    for at in range(len(text) + 1):
        for sign in SIGNS:
            yield text[:at] + sign + text[at:]
            yield text[:at] + sign + text[at + 1:]
        yield text[:at] + text[at + 1:]


class WordsCase(Case):

    def bad(self, call, texts):
        for text in texts:
            self.raises(BadText, {"line": 1}, call, text)

    def check_near(self, read, write, texts):
        """Each text near these is refused or is the one that is written for what was read."""
        for text in texts:
            self.assertEqual(write(read(text)), text)
            for other in near(text):
                try:
                    worth = read(other)
                except BadText as wrong:
                    self.assertEqual((wrong.__class__, wrong.line), (BadText, 1))
                else:
                    self.assertEqual(write(worth), other)


class NumberTest(WordsCase):

    def test_written(self):
        for number, text in ((Ratio(-3, 2), "-3/2"), (4, "4"), (0, "0"), (Ratio(0), "0"), (-7, "-7"),
                             (Ratio(6, -4), "-3/2"), (Ratio(1, HUGE), "1/" + "9" * 60), (-HUGE, "-" + "9" * 60),
                             (Ratio(8, 2), "4")):
            self.assertEqual(write_number(number), text)
            told = read_number(text)
            self.assertEqual((told, told.__class__), (number, Ratio))

    def test_numbers_that_are_not_written_so(self):
        self.bad(read_number, [
            "", "-", "/", "-0", "00", "01", "-01", "+1", "1/", "/2", "1/1", "4/1", "0/1", "0/2", "0/3", "1/0", "0/0",
            "2/4", "-2/4", "1/-2", "-1/-2", "1/02", "01/2", "1//2", "1/2/3", "--1", " 1", "1 ", "1 /2", "1/ 2", "1 2",
            "1.5", "1e3", "a", "none", "1_000", "0x1", "6/3", "1,0", "- 1", "-/2"])

    def test_number_of_digits(self):
        nine, one = "9" * 60, "1" + "0" * 59
        for text in (nine, "-" + nine, one, f"{nine}/{one}", f"-{one}/{nine}", f"1/{nine}"):
            self.assertEqual(write_number(read_number(text)), text)
        for text in ("1" + "0" * 60, "-" + "9" * 61, "1/" + "9" * 61, f"{'9' * 61}/{one}", "9" * 4000,
                     "1/" + "3" * 4000):
            self.bad(read_number, [text])

    def test_longer_numbers_are_written(self):
        self.assertEqual(write_number(Ratio(10 ** 70 + 1, 10 ** 65)), "1" + "0" * 69 + "1/1" + "0" * 65)

    def test_near(self):
        self.check_near(read_number, write_number, ["0", "4", "-3/2", "10/21", "-120", "105/2"])

    def test_all_short_texts(self):
        told = [write_number(Ratio(top, under)) for top in range(-99, 100) for under in range(1, 10)]
        told = {text for text in told if len(text) <= 3}
        told |= {str(number) for number in range(100, 1000)}
        for size in range(4):
            for signs in itertools.product("-/0123456789", repeat=size):
                text = "".join(signs)
                if text in told:
                    self.assertEqual(write_number(read_number(text)), text)
                else:
                    self.bad(read_number, [text])


class LotTest(WordsCase):

    def test_written(self):
        for lot, text in ((Lot(12, [4, 0, 3]), "0 3 4 of 12"), (Lot(12, []), "none of 12"), (Lot(1, [0]), "0 of 1"),
                          (Lot(1, []), "none of 1"), (Lot(360, [359, 10]), "10 359 of 360")):
            self.assertEqual((write_lot(lot), read_lot(text)), (text, lot))
        full = Lot.full(360)
        self.assertEqual(read_lot(write_lot(full)), full)

    def test_lots_that_are_not_written_so(self):
        self.bad(read_lot, [
            "", "none", "of", "of 12", " of 12", "none of", "none of ", "none of 0", "none of 361", "0 of 0",
            "none 0 of 12", "0 none of 12", "none none of 12", "0 3 4 of12", "0 3 4of 12", "0  3 of 12", " 0 of 12",
            "0 of 12 ", "0 of  12", "3 0 of 12", "0 0 of 12", "12 of 12", "-1 of 12", "00 of 12", "03 of 12",
            "0 of 012", "0 of +12", "0 of -12", "0,3 of 12", "0 of 12 of 12", "0 Of 12", "None of 12", "0 12",
            "0 of none", "1/2 of 12", f"0 of {HUGE}", f"{HUGE} of 12", "x of 12", "0 of x", "none of 9" + "9" * 70])

    def test_near(self):
        self.check_near(read_lot, write_lot, ["0 3 4 of 12", "none of 12", "0 of 1", "9 10 of 100"])


class TripleTest(WordsCase):

    def test_written(self):
        for spread, text in (((), "none"), (((0, 3, 2), (1, 0, 1)), "east@3*2 west@0*1"), (((1, 11, 6),), "west@11*6")):
            self.assertEqual((write_spread(HOUSE, spread), read_spread(HOUSE, text)), (text, spread))
        for past, text in (((), "none"), (((0, 3, 0), (1, 0, 96)), "east@3=0 west@0=96"), (((1, 11, 6),), "west@11=6")):
            self.assertEqual((write_past(HOUSE, past), read_past(HOUSE, text)), (text, past))

    def test_all_spreads_and_pasts(self):
        for spread in all_spreads(all_cells(SMALL), 3):
            self.assertEqual(read_spread(SMALL, write_spread(SMALL, spread)), spread)
        watch = drawn_watch(chances(1), SMALL, most=96)
        for past in all_pasts([watch, watch << 1], 3):
            self.assertEqual(read_past(SMALL, write_past(SMALL, past)), past)

    def test_errors_of_writing(self):
        self.refuses_bad_spreads(lambda spread: write_spread(SMALL, spread))
        self.refuses_bad_pasts(lambda past: write_past(SMALL, past))

    def test_forms_that_are_not_written_so(self):
        for sign, read in (("*", read_spread), ("=", read_past)):
            texts = ["", " ", "None", "none ", " none", "none none", "east", "east@", "east@3", "east@3S", "@3S1",
                     "east@S1", "eastS1", "east3S1", "east@3S1 ", " east@3S1", "east@3S1  west@3S1",
                     "east@3S1,west@3S1", "east@3S1west@3S1", "east@03S1", "east@3S01", "east@+3S1", "east@-3S1",
                     "east@3S-1", "east@3S+1", "east@12S1", "east@3S1/2", "south@3S1", "East@3S1", "eas@3S1", "0@3S1",
                     "east@3@3S1", "east@3S1S1", "eastS3@1", "east@3S1 none", "none east@3S1", "east@3S1 east@3S1",
                     "east@3S1 east@2S1", "west@0S1 east@3S1", f"east@{HUGE}S1", f"east@3S{HUGE}",
                     "east@3S" + "9" * 70, "east @3S1", "east@ 3S1", "east@3S 1", "east@3 S1", "east@xS1", "east@3Sx",
                     "none@0S1"]
            self.bad(lambda text: read(HOUSE, text), [text.replace("S", sign) for text in texts])
        self.bad(lambda text: read_spread(HOUSE, text), ["east@3*0", "east@3*7", "east@3*4 west@0*3", "east@3=1"])
        self.bad(lambda text: read_past(HOUSE, text), ["east@3=97", "east@0=0 east@1=0 east@2=0 east@3=0", "east@3*1"])
        self.assertEqual(read_spread(HOUSE, "east@3*4 west@0*2"), ((0, 3, 4), (1, 0, 2)))
        self.assertEqual(len(read_past(HOUSE, "east@0=0 east@1=0 east@2=0")), 3)

    def test_a_gate_that_is_called_none(self):
        house = House(2, [("none", 1), ("of", 2)])
        self.assertEqual(read_spread(house, "none@0*1 of@1*2"), ((0, 0, 1), (1, 1, 2)))
        self.assertEqual((read_past(house, "none"), read_past(house, "none@1=0")), ((), ((0, 1, 0),)))

    def test_near(self):
        self.check_near(lambda text: read_spread(HOUSE, text), lambda spread: write_spread(HOUSE, spread),
                        ["none", "east@3*2 west@0*1", "east@0*1 east@10*2"])
        self.check_near(lambda text: read_past(HOUSE, text), lambda past: write_past(HOUSE, past),
                        ["none", "east@3=0 west@0=96", "east@10=10 west@2=3 west@11=4"])

    def test_largest(self):
        house = House(24, [("abcdefgh", 60), ("z", 0)])
        spread = tuple((gate, hour, 1) for gate in (0, 1) for hour in (0, 10, 23))
        self.assertEqual(write_spread(house, spread),
                         "abcdefgh@0*1 abcdefgh@10*1 abcdefgh@23*1 z@0*1 z@10*1 z@23*1")
        self.assertEqual(read_spread(house, write_spread(house, spread)), spread)
