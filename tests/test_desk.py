"""Point 63: the desk."""

import itertools

from tests.brute import chances
from tests.checks import HUGE, Case
from watchbeats.books import Book
from watchbeats.charts import chart
from watchbeats.desk import Desk
from watchbeats.errors import BadLine, BadName, BadNumber, NoPlace, NotEnough, TooMany, UnknownName
from watchbeats.families import Family
from watchbeats.fewest import fewest_starts
from watchbeats.plans import Plan
from watchbeats.ratio import Ratio
from watchbeats.settles import settle
from watchbeats.tables import close_table
from watchbeats.texts import read_book, write_book
from watchbeats.turning import turned_bound

TEXT = "\n".join(["hours 4", "gate east 3", "gate west 5", "beat walk east east west -", "beat back west - - east",
                  "plan p walk 0 2", "plan q back 1 ; walk", "plan r"])
DEEDS = ["copy p s", "turn q 1", "join p q", "without q 0", "drop r", "copy q p", "turn p -7", "join q q"]


def made():
    return Desk(read_book(TEXT))


def ended(lines):
    """The text of the book after some lines."""
    desk = made()
    desk.run(lines)
    return write_book(desk.book())


class DeskCase(Case):

    def whole(self, desk):
        """What the desk's book is, and what is behind undo and redo; the desk is left as it was."""
        told = [write_book(desk.book())]
        back = 0
        while self.is_run(desk, "undo"):
            back += 1
            told.append(write_book(desk.book()))
        for _ in range(back):
            desk.run(["redo"])
        ahead = 0
        while self.is_run(desk, "redo"):
            ahead += 1
            told.append(write_book(desk.book()))
        for _ in range(ahead):
            desk.run(["undo"])
        return told, back, ahead

    def is_run(self, desk, line):
        try:
            desk.run([line])
        except BadLine:
            return False
        return True

    def bad(self, desk, lines, at, kind=None):
        """The line with this number is bad, with this cause, and nothing has changed."""
        before = self.whole(desk)
        error = self.raises(BadLine, {"line": at}, desk.run, lines)
        self.assertEqual(self.whole(desk), before)
        if kind is not None:
            self.assertIs(error.__cause__.__class__, kind)
        return error.__cause__


class DeedTest(DeskCase):

    def test_the_deeds(self):
        desk = made()
        old = desk.book()
        rows = desk.run(["copy p s", "turn p 3", "join s q", "without q 0", "drop r"])
        self.assertEqual(rows, ["s copied", "p turned", "s joined", "q parted", "r dropped"])
        book = desk.book()
        self.assertEqual((list(book), book["p"], book["s"], book["q"]),
                         (["p", "q", "s"], old["p"] << 3, old["p"] + old["q"], old["q"].without(0)))

    def test_a_name_keeps_its_place(self):
        book = made()
        self.assertEqual(book.run(["copy r p", "copy q q"]), ["p copied", "q copied"])
        self.assertEqual((list(book.book()), book.book()["p"]), (["p", "q", "r"], Plan(book.book().house)))

    def test_turns_with_great_and_negative_numbers(self):
        for by in (0, 1, -1, 4, -5, HUGE, -HUGE):
            desk = made()
            self.assertEqual(desk.run([f"turn p {by}"]), ["p turned"])
            self.assertEqual(desk.book()["p"], made().book()["p"] << by)

    def test_join_with_itself(self):
        desk = made()
        desk.run(["join p p"])
        self.assertEqual(desk.book()["p"], made().book()["p"] + made().book()["p"])

    def test_undo_and_redo(self):
        desk = made()
        texts = [write_book(desk.book())]
        for line in DEEDS:
            desk.run([line])
            texts.append(write_book(desk.book()))
        for at in range(len(DEEDS) - 1, -1, -1):
            self.assertEqual(desk.run(["undo"]), ["undone"])
            self.assertEqual(write_book(desk.book()), texts[at])
        self.bad(desk, ["undo"], 1)
        for text in texts[1:]:
            self.assertEqual(desk.run(["redo"]), ["redone"])
            self.assertEqual(write_book(desk.book()), text)
        self.bad(desk, ["redo"], 1)

    def test_undo_takes_back_deeds_of_earlier_runs(self):
        desk = made()
        desk.run(["copy p s", "turn q 1"])
        rows = desk.run(["turn p 1", "undo", "undo", "undo", "redo"])
        self.assertEqual(rows, ["p turned", "undone", "undone", "undone", "redone"])
        self.assertEqual(write_book(desk.book()), ended(["copy p s"]))
        self.assertEqual(desk.run(["redo"]), ["redone"])
        self.assertEqual(write_book(desk.book()), ended(["copy p s", "turn q 1"]))

    def test_a_new_deed_forgets_what_was_undone(self):
        for line in DEEDS + ["copy p p", "turn r 1", "turn p 0", "turn p 4", "join p r"]:
            desk = made()
            desk.run(["copy p s", "copy p t", "undo", line])
            self.bad(desk, ["redo"], 1)
            desk.run(["undo"])
            self.assertEqual(write_book(desk.book()), ended(["copy p s"]))

    def test_deeds_that_change_nothing_are_deeds(self):
        desk = made()
        desk.run(["copy p p", "turn p 0", "join p r", "turn r 2"])
        self.assertEqual(write_book(desk.book()), TEXT)
        self.assertEqual(desk.run(["undo"] * 4), ["undone"] * 4)
        self.bad(desk, ["undo"], 1)

    def test_questions_are_no_deeds(self):
        desk = made()
        desk.run(["copy p s", "undo", "chart p", "bound p 1 0", "close 1 1 0 p", "settle 1 1 0 p", "fewest walk 1"])
        self.assertEqual(desk.run(["redo"]), ["redone"])
        self.bad(desk, ["redo"], 1)
        desk.run(["undo"])
        self.bad(desk, ["undo"], 1)

    def test_any_lines_in_any_order(self):
        chance = chances(1)
        for _ in range(40):
            desk = made()
            stood, undone = [], []
            for _ in range(20):
                line = chance.choice(["undo", "redo"] + DEEDS)
                try:
                    desk.run([line])
                except BadLine:
                    continue
                if line == "undo":
                    undone.append(stood.pop())
                elif line == "redo":
                    stood.append(undone.pop())
                else:
                    stood.append(line)
                    undone = []
                self.assertEqual(write_book(desk.book()), ended(stood))

    def test_copies_change_apart(self):
        book = read_book(TEXT)
        desk = Desk(book)
        book.drop("p")
        self.assertEqual(write_book(desk.book()), TEXT)
        told = desk.book()
        told.drop("q")
        told["p"] = Plan(told.house)
        self.assertEqual(write_book(desk.book()), TEXT)
        desk.run(["drop r"])
        self.assertEqual((list(book), list(told)), (["q", "r"], ["p", "r"]))
        desk.run(["undo"])
        self.assertEqual(write_book(desk.book()), TEXT)
        self.assertIs(desk.book().__class__, Book)


class QuestionTest(DeskCase):

    def test_the_example(self):
        desk = Desk(read_book("hours 2\ngate a 3\nbeat walk a -\nplan p walk 0 1 ; walk"))
        self.assertEqual(desk.run(["bound p 2 0", "without p 0", "bound p 1 0", "fewest walk 1"]),
                         ["bound 3", "p parted", "bound 3", "fewest 2"])

    def test_chart(self):
        desk = made()
        book = desk.book()
        self.assertEqual(desk.run(["chart p", "chart r", "chart q"]),
                         [row for name in "prq" for row in chart(book[name].watch())])
        self.assertEqual(len(desk.run(["chart p"])), 3)

    def test_bound(self):
        desk = made()
        book = desk.book()
        for name, tries, looks in itertools.product("pqr", range(4), range(3)):
            told = turned_bound(book[name].watch(), tries=tries, looks=looks).bound
            self.assertEqual(desk.run([f"bound {name} {tries} {looks}"]), [f"bound {told}"])

    def test_close_and_settle(self):
        desk = made()
        desk.run(["copy p s", "turn s 1"])
        book = desk.book()
        words = set()
        for names in (["p"], ["p", "q"], ["p", "p"], ["q", "s", "r"], ["p", "s"]):
            family = Family(book.house, [book[name].watch() for name in names])
            for tries, looks in itertools.product(range(3), range(2)):
                for bound in ("-1", "0", "5/3", "4", "11"):
                    top, _, under = bound.partition("/")
                    value = close_table(family, Ratio(int(top), int(under or 1)), tries=tries, looks=looks).value
                    told = f"held {value}" if value >= 0 else f"beaten {-value}"
                    self.assertEqual(desk.run([f"close {bound} {tries} {looks} {' '.join(names)}"]), [told])
                    words.add(told.split(" ")[0])
                told = settle(family, 3, tries=tries, looks=looks)
                self.assertEqual(desk.run([f"settle 3 {tries} {looks} {' '.join(names)}"]), [f"settled {told}"])
        self.assertEqual(words, {"held", "beaten"})

    def test_fewest(self):
        desk = made()
        book = desk.book()
        for name in ("walk", "back"):
            for need in range(2):
                lots = [book.beat_named(name).lot(gate) for gate in (0, 1)]
                told = len(fewest_starts(lots, [need, need]).starts)
                self.assertEqual(desk.run([f"fewest {name} {need}"]), [f"fewest {told}"])

    def test_a_plan_and_a_beat_of_one_name(self):
        desk = made()
        self.assertEqual(desk.run(["copy p walk", "chart walk", "fewest walk 0"])[0::4], ["walk copied", "fewest 0"])

    def test_largest(self):
        house = "hours 24\ngate a 3\ngate b 60\nbeat walk" + " a - b" * 8
        desk = Desk(read_book(house + "\nplan p walk 0 1 5 9 11 ; walk 3 4 17 23"))
        told = turned_bound(desk.book()["p"].watch(), tries=3, looks=1).bound
        self.assertEqual(desk.run(["bound p 3 1"]), [f"bound {told}"])
        lines = ["copy p s"] + ["turn s 1"] * 58 + ["chart s"]
        self.assertEqual(len(desk.run(lines)), 62)


class BadLineTest(DeskCase):

    def test_too_many_lines(self):
        desk = made()
        self.assertEqual(desk.run([]), [])
        self.assertEqual(len(desk.run(["turn p 1"] * 60)), 60)
        before = self.whole(desk)
        self.raises(TooMany, {"name": "lines", "most": 60}, desk.run, ["turn p 1"] * 61)
        self.raises(TooMany, {"name": "lines", "most": 60}, desk.run, ["nothing"] * 61)
        self.assertEqual(self.whole(desk), before)

    def test_lines_without_a_form(self):
        desk = made()
        desk.run(["copy p s", "copy p t", "undo"])
        for line in ("", " ", "nothing", "Copy p s", " copy p s", "copy p s ", "copy  p s", "copy p", "copy p s t",
                     "copy", "turn p", "turn p 1 1", "turn p x", "turn p 1/2", "turn p +1", "turn p 01", "turn p -0",
                     "turn p 2/1", "turn p " + "9" * 61, "join p", "join p q r", "without p", "without p 0 0",
                     "without p 1/2", "drop", "drop p q", "undo 1", "redo 1", "undo ", "chart", "chart p q",
                     "bound p", "bound p 1", "bound p 1 1 1", "bound p 1/2 0", "bound p 1 1/2", "bound p x 0",
                     "close", "close 1 1 0", "close 1 1 p", "close x 1 0 p", "close 1 x 0 p", "close 1 1 x p",
                     "close 2/4 1 0 p", "close 1 1/2 0 p", "close 1 1 1/2 p", "close 1 1 0 p ", "close 1 1 0  p",
                     "settle", "settle 1 1 0", "settle 1/2 1 0 p", "settle x 1 0 p", "settle 1 1 0 p ", "fewest walk",
                     "fewest walk 1 1", "fewest walk 1/2", "fewest walk x", "fewest", "held 1", "copy p\ts"):
            self.bad(desk, [line], 1)
            self.bad(desk, ["turn p 1", "undo", "chart q", line, "drop p"], 4)

    def test_causes(self):
        desk = made()
        desk.run(["copy p s", "copy p t", "undo"])
        for line, kind in (
                ("copy x s", UnknownName), ("copy p P", BadName), ("copy p toolonger", BadName),
                ("turn x 1", UnknownName), ("join x p", UnknownName), ("join p x", UnknownName),
                ("without x 0", UnknownName), ("without r 0", NoPlace), ("without p 1", NoPlace),
                ("without p -1", NoPlace), (f"without p {HUGE}", NoPlace), ("drop x", UnknownName),
                ("drop walk", UnknownName), ("chart x", UnknownName), ("bound x 1 0", UnknownName),
                ("bound p 4 0", BadNumber), ("bound p -1 0", BadNumber), ("bound p 1 3", BadNumber),
                ("bound p 1 -1", BadNumber), ("close 1 4 0 p", BadNumber), ("close 1 1 3 p", BadNumber),
                ("close 1 1 0 p x", UnknownName), ("close 1 1 0 x", UnknownName),
                ("close 1 1 0 p p p p p p p p p", TooMany),
                ("settle 0 1 0 p", BadNumber), ("settle 13 1 0 p", BadNumber), ("settle -1 1 0 p", BadNumber),
                ("settle 1 1 0 x", UnknownName), ("fewest x 1", UnknownName), ("fewest p 1", UnknownName),
                ("fewest walk 4", BadNumber), ("fewest walk -1", BadNumber)):
            self.bad(desk, [line], 1, kind)
            self.bad(desk, ["drop s", "undo", line], 3, kind)
        cause = self.bad(desk, ["chart p", "turn x 1"], 2, UnknownName)
        self.assertEqual(cause.name, "x")
        cause = self.bad(desk, ["bound p 9 0"], 1, BadNumber)
        self.assertEqual((cause.name, cause.value), ("tries", 9))

    def test_too_many_crews_and_plans(self):
        desk = made()
        cause = self.bad(desk, ["join q q", "join p q"], 2, TooMany)
        self.assertEqual((cause.name, cause.most), ("crews", 4))
        cause = self.bad(desk, [f"copy p {name}" for name in ("a", "b", "c", "d", "e", "f", "g")], 6, TooMany)
        self.assertEqual((cause.name, cause.most), ("plans", 8))
        self.assertEqual(desk.run([f"copy p {name}" for name in ("a", "b", "c", "d", "e", "a")])[5], "a copied")

    def test_errors_of_the_called_functions(self):
        wide = Desk(read_book("hours 17\ngate a 3\nbeat walk" + " a" * 17 + "\nplan p walk 0"))
        for line, kind in (("bound p 1 2", TooMany), ("close 1 1 0 p", TooMany), ("settle 1 1 0 p", TooMany),
                           ("fewest walk 1", BadNumber)):
            self.bad(wide, ["chart p", line], 2, kind)
        self.bad(made(), ["fewest back 3"], 1, NotEnough)

    def test_nothing_to_undo_or_redo(self):
        desk = made()
        self.bad(desk, ["undo"], 1)
        self.bad(desk, ["redo"], 1)
        self.bad(desk, ["copy p s", "undo", "undo"], 3)
        self.bad(desk, ["copy p s", "redo"], 2)
        self.bad(desk, ["copy p s", "undo", "copy p t", "redo"], 4)

    def test_each_line_behind_good_ones(self):
        for at in range(len(DEEDS) + 1):
            desk = made()
            desk.run(["copy p t", "turn t 1", "undo"])
            lines = DEEDS[:at] + ["undo", "redo"] + ["turn nobody 1"]
            if at == 0:
                lines[:2] = ["redo", "undo"]
            self.bad(desk, lines, len(lines), UnknownName)
