"""Points 61 and 62: books as text, and the first bad line."""

import re

from tests.brute import chances
from tests.checks import HUGE, Case
from watchbeats.beats import Beat
from watchbeats.books import Book
from watchbeats.crews import Crew
from watchbeats.errors import BadText
from watchbeats.houses import House
from watchbeats.lots import Lot
from watchbeats.plans import Plan
from watchbeats.texts import read_book, write_book

TEXT = "hours 2\ngate a 3\nbeat walk a -\nplan p walk 0 1 ; walk"
LONG = "\n".join(["hours 3", "gate east 10", "gate b 0", "beat walk east b -", "beat w - - -", "beat back east b -",
                  "plan p walk 0 2 ; w", "plan none", "plan walk w 1 ; walk 0 1 2 ; w ; w 2"])
NAME = "([a-z]{1,8})"
NUMBER = "(0|[1-9][0-9]*)"
SIGNS = "\n -/;019abehlgnoprstuw+=_A"


def is_crew(words, hours, beats):
    starts = [int(word) for word in words[1:] if re.fullmatch(NUMBER, word)]
    return (words[0] in beats and len(starts) == len(words) - 1 and starts == sorted(set(starts))
            and all(start < hours for start in starts))


def is_gate(line, hours, gates, beats, plans):
    told = re.fullmatch(f"gate {NAME} {NUMBER}", line)
    return (told and not beats and not plans and told[1] not in gates and len(gates) < 4
            and hours * len(gates) + hours <= 48 and int(told[2]) <= 60)


def is_beat(line, hours, gates, beats, plans):
    told = re.fullmatch(f"beat {NAME}((?: [a-z]+| -)*)", line)
    steps = told[2].split(" ")[1:] if told else []
    return (told and gates and not plans and told[1] not in beats and len(beats) < 8 and len(steps) == hours
            and all(step in gates + ["-"] for step in steps))


def is_plan(line, hours, gates, beats, plans):
    told = re.fullmatch(f"plan {NAME}( .*)?", line)
    crews = told[2][1:].split(" ; ") if told and told[2] else []
    return (told and gates and told[1] not in plans and len(plans) < 8 and len(crews) <= 4
            and all(is_crew(crew.split(" "), hours, beats) for crew in crews))


def first_bad_line(text):
    """The number of the first bad line, or None; told in another way than the program does."""
    lines = text.split("\n")
    first = re.fullmatch(f"hours {NUMBER}", lines[0])
    if not first or not 1 <= int(first[1]) <= 24:
        return 1
    hours, gates, beats, plans = int(first[1]), [], [], []
    for at, line in enumerate(lines[1:]):
        kind, _, rest = line.partition(" ")
        name = rest.partition(" ")[0]
        if kind == "gate" and is_gate(line, hours, gates, beats, plans):
            gates.append(name)
        elif kind == "beat" and is_beat(line, hours, gates, beats, plans):
            beats.append(name)
        elif kind == "plan" and is_plan(line, hours, gates, beats, plans):
            plans.append(name)
        else:
            return at + 2
    return None if gates else 2


def drawn_book(chance):
    hours = chance.randint(1, 12)
    names = ["walk", "back", "a", "none", "hours", "gate", "beat", "plan", "z"]
    gates = chance.sample(names, chance.randint(1, 4))
    house = House(hours, [(gate, chance.randint(0, 60)) for gate in gates])
    book = Book(house)
    for name in chance.sample(names, chance.randint(0, 8)):
        book.add_beat(name, Beat(house, [chance.randint(-1, len(gates) - 1) for _ in range(hours)]))
    for name in chance.sample(names, chance.randint(0, 8)):
        crews = [Crew(book.beat_named(chance.choice(book.beat_names)),
                      Lot(hours, [hour for hour in range(hours) if chance.random() < 0.4]))
                 for _ in range(chance.randint(0, 4)) if book.beat_names]
        book[name] = Plan(house, *crews)
    return book


class WriteTest(Case):

    def test_small(self):
        house = House(2, [("a", 3)])
        book = Book(house)
        self.assertEqual(write_book(book), "hours 2\ngate a 3")
        walk = Beat(house, [0, -1])
        book.add_beat("walk", walk)
        book["p"] = Plan(house, Crew(walk, Lot(2, [1, 0])), Crew(walk, Lot(2, [])))
        self.assertEqual(write_book(book), TEXT)
        book["q"] = Plan(house)
        book["p"] = Plan(house, Crew(walk, Lot(2, [])))
        self.assertEqual(write_book(book), "hours 2\ngate a 3\nbeat walk a -\nplan p walk\nplan q")

    def test_the_first_name_of_equal_beats(self):
        book = read_book(LONG)
        self.assertEqual(write_book(book), LONG)
        other = read_book(LONG.replace("plan p walk 0 2", "plan p back 0 2"))
        self.assertEqual(other, book)
        self.assertEqual(write_book(other), LONG)

    def test_a_book_written_and_read(self):
        chance = chances(1)
        for _ in range(300):
            book = drawn_book(chance)
            text = write_book(book)
            self.assertEqual(first_bad_line(text), None)
            self.assertEqual(read_book(text), book)
            self.assertEqual(write_book(read_book(text)), text)

    def test_largest(self):
        house = House(24, [("abcdefgh", 60), ("z", 0)])
        names = ["one", "two", "three", "four", "five", "six", "seven", "eight"]
        book = Book(house)
        for at, name in enumerate(names):
            book.add_beat(name, Beat(house, [(hour * at) % 3 - 1 for hour in range(24)]))
        for name in names:
            book[name] = Plan(house, *[Crew(book.beat_named(name), Lot.full(24))] * 4)
        text = write_book(book)
        self.assertEqual((read_book(text), write_book(read_book(text))), (book, text))
        self.raises(BadText, {"line": 20}, read_book, text + "\nplan nine")
        lines = text.split("\n")
        self.raises(BadText, {"line": 12}, read_book, "\n".join(lines[:11] + ["beat nine" + " -" * 24]))


class ReadTest(Case):

    def check(self, text):
        """Holds what is read, or the bad line that is told, against the other way to tell it."""
        line = first_bad_line(text)
        if line is None:
            self.assertIs(read_book(text).__class__, Book)
        else:
            self.raises(BadText, {"line": line}, read_book, text)
        return line

    def bad(self, line, *lines):
        self.assertEqual(first_bad_line("\n".join(lines)), line)
        self.raises(BadText, {"line": line}, read_book, "\n".join(lines))

    def test_small(self):
        book = read_book(TEXT)
        house = House(2, [("a", 3)])
        walk = Beat(house, [0, -1])
        self.assertEqual((book.house, book.beat_names, book.beat_named("walk"), list(book)),
                         (house, ["walk"], walk, ["p"]))
        self.assertEqual(book["p"], Plan(house, Crew(walk, Lot(2, [0, 1])), Crew(walk, Lot(2, []))))
        self.assertEqual(book["p"].watch().rows, [[1, 1]])

    def test_an_unknown_beat(self):
        self.raises(BadText, {"line": 3}, read_book, "hours 2\ngate a 3\nplan p walk 0")

    def test_where_the_text_can_end(self):
        lines = LONG.split("\n")
        for many in range(len(lines) + 1):
            self.assertEqual(self.check("\n".join(lines[:many])), [1, 2][many] if many < 2 else None)
        self.assertEqual(read_book("hours 1\ngate a 0"), Book(House(1, [("a", 0)])))

    def test_empty_lines(self):
        self.raises(BadText, {"line": 1}, read_book, "")
        self.raises(BadText, {"line": 1}, read_book, "\n")
        self.raises(BadText, {"line": 5}, read_book, TEXT + "\n")
        self.raises(BadText, {"line": 1}, read_book, "\n" + TEXT)
        self.raises(BadText, {"line": 2}, read_book, "hours 2\n")
        self.raises(BadText, {"line": 3}, read_book, "hours 2\ngate a 3\n\nplan p")

    def test_the_hours_line(self):
        for line in ("hours", "hours ", "hours 0", "hours 25", "hours 02", "hours +2", "hours -2", "hours 2 2",
                     "hours  2", " hours 2", "hours 2 ", "Hours 2", "hour 2", "hours two", "hours 2/1",
                     f"hours {HUGE}", "hours " + "9" * 70, "gate a 3"):
            self.bad(1, line, "gate a 3", "plan")
        for hours in range(1, 25):
            self.assertEqual(read_book(f"hours {hours}\ngate a 3").house.hours, hours)

    def test_no_gate(self):
        self.bad(2, "hours 2")
        self.bad(2, "hours 2", "hours 2")
        self.bad(2, "hours 2", "beat walk - -")
        self.bad(2, "hours 2", "plan p")

    def test_gate_lines(self):
        for line in ("gate", "gate a", "gate a 61", "gate a -1", "gate a 03", "gate a 3 3", "gate a  3", "gate A 3",
                     "gate  3", "gate toolonger 3", "gate a1 3", "gate - 3", "gate a x", f"gate a {HUGE}",
                     "gate 3 a"):
            self.bad(2, "hours 2", line, "plan")
        self.bad(3, "hours 2", "gate a 3", "gate a 4")
        self.bad(6, "hours 2", "gate a 3", "gate b 4", "gate c 4", "gate d 4", "gate e 4", "plan")
        self.bad(4, "hours 24", "gate a 3", "gate b 4", "gate c 4", "plan")
        self.bad(5, "hours 13", "gate a 3", "gate b 4", "gate c 4", "gate d 4")
        self.assertEqual(len(read_book("hours 12\ngate a 0\ngate b 60\ngate c 1\ngate d 2").house), 4)

    def test_beat_lines(self):
        for line in ("beat", "beat walk", "beat walk a", "beat walk a - -", "beat walk a b", "beat walk a  -",
                     "beat walk a - ", "beat  a -", "beat Walk a -", "beat toolonger a -", "beat walk a 0",
                     "beat walk a -1", "beat walk a ;", "beat - a -", "beats walk a -"):
            self.bad(3, "hours 2", "gate a 3", line, "plan")
        self.bad(4, "hours 2", "gate a 3", "beat walk a -", "beat walk - a")
        beats = [f"beat {name} - -" for name in "abcdefghi"]
        self.bad(11, "hours 2", "gate a 3", *beats)
        self.assertEqual(len(read_book("\n".join(["hours 2", "gate a 3"] + beats[:8])).beat_names), 8)

    def test_plan_lines(self):
        for line in ("plan", "plan ", "plan P", "plan toolonger", "plan p ", "plan p ;", "plan p ; walk",
                     "plan p walk ;", "plan p walk ; ; walk", "plan p walk ;  ; walk", "plan p walk;walk",
                     "plan p walk 0;", "plan p walk ;walk", "plan p run", "plan p 0", "plan p walk 2",
                     "plan p walk -1", "plan p walk 1 0", "plan p walk 0 0", "plan p walk 00", "plan p walk 0 01",
                     "plan p walk  0", "plan p walk 0 ", "plan p walk x", "plan p walk walk", "plan p walk 0 ;  walk",
                     "plan p walk  ; walk", f"plan p walk {HUGE}", "plan p walk ; walk ; walk ; walk ; walk",
                     "plan ;", "plan p -", "plan p none", "plan  walk"):
            self.bad(4, "hours 2", "gate a 3", "beat walk a -", line, "plan")
        self.bad(4, "hours 2", "gate a 3", "plan p", "plan p")
        plans = [f"plan {name}" for name in "abcdefghi"]
        self.bad(11, "hours 2", "gate a 3", *plans)
        self.assertEqual(len(read_book("\n".join(["hours 2", "gate a 3"] + plans[:8]))), 8)
        four = read_book("hours 2\ngate a 3\nbeat walk a -\nplan p walk ; walk 0 ; walk 1 ; walk 0 1")
        self.assertEqual([len(crew) for crew in four["p"].crews], [0, 1, 1, 2])

    def test_lines_out_of_their_place(self):
        lines = LONG.split("\n")
        for at in range(len(lines)):
            self.check("\n".join(lines[:at] + lines[at + 1:]))
            for to in range(len(lines) + 1):
                self.check("\n".join(lines[:to] + [lines[at]] + lines[to:]))
                fresh = re.sub("^(gate|beat|plan) [a-z]+", r"\1 fresh", lines[at])
                self.check("\n".join(lines[:to] + [fresh] + lines[to:]))
        self.bad(5, "hours 2", "gate a 3", "beat walk a -", "plan p", "beat w - -")
        self.bad(4, "hours 2", "gate a 3", "plan p", "gate b 3")
        self.bad(4, "hours 2", "gate a 3", "beat walk a -", "gate b 3")
        self.bad(3, "hours 2", "gate a 3", "hours 2")

    def test_near(self):
        told = set()
        for text in (TEXT, LONG):
            for at in range(len(text) + 1):
                told.add(self.check(text[:at] + text[at + 1:]))
                for sign in SIGNS:
                    told.add(self.check(text[:at] + sign + text[at:]))
                    told.add(self.check(text[:at] + sign + text[at + 1:]))
        self.assertEqual(told - {None}, set(range(1, len(LONG.split("\n")) + 2)))

    def test_what_is_read_is_written_so(self):
        for text in (TEXT, LONG):
            for at in range(len(text) + 1):
                for sign in SIGNS:
                    near = text[:at] + sign + text[at + 1:]
                    if first_bad_line(near) is None:
                        written = write_book(read_book(near))
                        self.assertEqual(written.replace("back", "walk"), near.replace("back", "walk"))
