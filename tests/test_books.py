"""Point 60: books of beats and plans."""

from tests.checks import Case
from watchbeats.beats import Beat
from watchbeats.books import Book
from watchbeats.crews import Crew
from watchbeats.errors import BadName, NoBeat, OtherHouse, RepeatedName, TooMany, UnknownName
from watchbeats.houses import House
from watchbeats.lots import Lot
from watchbeats.plans import Plan

HOUSE = House(2, [("a", 3), ("b", 1)])
OTHER = House(2, [("a", 3), ("b", 2)])
WALK = Beat(HOUSE, [0, -1])
BACK = Beat(HOUSE, [1, 0])
BAD_NAMES = ("", "Walk", "walk1", "toolonger", "a b", "-", ";")
EIGHT = ["one", "two", "three", "four", "five", "six", "seven", "eight"]


def made():
    book = Book(HOUSE)
    book.add_beat("walk", WALK)
    book.add_beat("back", BACK)
    return book


def crew(beat, *starts):
    return Crew(beat, Lot(2, list(starts)))


class BookTest(Case):

    def test_at_first(self):
        book = Book(HOUSE)
        self.assertEqual((book.house, book.beat_names, len(book), list(book)), (HOUSE, [], 0, []))
        self.assertNotIn("walk", book)

    def test_beats(self):
        book = Book(HOUSE)
        self.assertIs(book.add_beat("walk", WALK), None)
        book.add_beat("back", BACK)
        book.add_beat("again", Beat(House(2, [("a", 3), ("b", 1)]), [0, -1]))
        self.assertEqual(book.beat_names, ["walk", "back", "again"])
        self.assertEqual([book.beat_named("walk"), book.beat_named("back"), book.beat_named("again")],
                         [WALK, BACK, WALK])
        self.assertEqual((len(book), "walk" in book), (0, False))
        for name in ("max", "", "Walk"):
            self.raises(UnknownName, {"name": name}, book.beat_named, name)
        book.beat_names.clear()
        self.assertEqual(len(book.beat_names), 3)

    def test_errors_of_beats_in_order(self):
        book = Book(HOUSE)
        for name in EIGHT:
            book.add_beat(name, WALK)
        strange = Beat(OTHER, [0, 0])
        for name in BAD_NAMES:
            self.raises(BadName, {"name": name}, book.add_beat, name, strange)
        self.raises(RepeatedName, {"name": "five"}, book.add_beat, "five", strange)
        self.raises(OtherHouse, {}, book.add_beat, "nine", strange)
        self.raises(TooMany, {"name": "beats", "most": 8}, book.add_beat, "nine", WALK)
        self.assertEqual(book.beat_names, EIGHT)

    def test_plans(self):
        book = made()
        one, two = Plan(HOUSE, crew(WALK, 0)), Plan(HOUSE, crew(BACK), crew(WALK, 0, 1))
        book["p"] = one
        self.assertIs(book.set_plan("walk", two), None)
        book["c"] = Plan(HOUSE)
        self.assertEqual((len(book), list(book), book["p"], book["walk"], book["c"]),
                         (3, ["p", "walk", "c"], one, two, Plan(HOUSE)))
        self.assertEqual(["walk" in book, "back" in book, "" in book], [True, False, False])
        book["p"] = two
        self.assertEqual((list(book), book["p"], len(book)), (["p", "walk", "c"], two, 3))
        for name in ("max", "", "P", "back"):
            self.raises(UnknownName, {"name": name}, lambda: book[name])

    def test_drop(self):
        book = made()
        for name in ("p", "c", "d"):
            book[name] = Plan(HOUSE)
        self.assertIs(book.drop("p"), None)
        self.assertEqual((list(book), "p" in book), (["c", "d"], False))
        for name in ("p", "walk", "", "C"):
            self.raises(UnknownName, {"name": name}, book.drop, name)
        book["p"] = Plan(HOUSE, crew(WALK))
        self.assertEqual((list(book), len(book)), (["c", "d", "p"], 3))

    def test_beats_that_are_equal(self):
        book = made()
        equal = Beat(House(2, [("a", 3), ("b", 1)]), [1, 0])
        book["p"] = Plan(House(2, [("a", 3), ("b", 1)]), crew(equal, 1))
        self.assertEqual(book["p"], Plan(HOUSE, crew(BACK, 1)))

    def put(self, book, name, plan):
        book[name] = plan

    def test_errors_of_plans_in_order(self):
        book = made()
        for name in EIGHT:
            book[name] = Plan(HOUSE)
        unknown = crew(Beat(HOUSE, [-1, 0]), 0)
        for call in (lambda name, plan: self.put(book, name, plan), book.set_plan):
            for name in BAD_NAMES:
                self.raises(BadName, {"name": name}, call, name, Plan(OTHER))
            self.raises(OtherHouse, {}, call, "nine", Plan(OTHER, Crew(Beat(OTHER, [0, 0]), Lot(2, []))))
            self.raises(NoBeat, {"index": 0}, call, "nine", Plan(HOUSE, unknown))
            self.raises(NoBeat, {"index": 2}, call, "five", Plan(HOUSE, crew(WALK), crew(BACK, 0), unknown, unknown))
            self.raises(TooMany, {"name": "plans", "most": 8}, call, "nine", Plan(HOUSE, crew(WALK)))
        book["five"] = Plan(HOUSE, crew(WALK, 1))
        self.assertEqual((list(book), book["five"]), (EIGHT, Plan(HOUSE, crew(WALK, 1))))
        book.drop("one")
        book["nine"] = Plan(HOUSE)
        self.assertEqual(list(book), EIGHT[1:] + ["nine"])

    def test_equal(self):
        one, two = made(), made()
        self.assertTrue(one == two and not one != two)
        one["p"] = Plan(HOUSE)
        self.assertTrue(one != two and not one == two)
        two["c"] = Plan(HOUSE)
        self.assertFalse(one == two)
        one["c"] = two["p"] = Plan(HOUSE)
        # The names are the same now, but not in the same order.
        self.assertFalse(one == two)
        two.drop("c")
        two["c"] = Plan(HOUSE)
        self.assertTrue(one == two)
        two["c"] = Plan(HOUSE, crew(WALK))
        self.assertFalse(one == two)
        two["c"] = one["c"]
        two.add_beat("again", WALK)
        self.assertFalse(one == two)
        for other in (Book(OTHER), None, "book", ["p", "c"]):
            self.assertFalse(Book(HOUSE) == other)

    def test_equal_beats_in_order(self):
        one, two, three = Book(HOUSE), Book(HOUSE), Book(HOUSE)
        for book, rows in ((one, (("x", WALK), ("y", BACK))), (two, (("y", BACK), ("x", WALK))),
                           (three, (("x", BACK), ("y", WALK)))):
            for name, beat in rows:
                book.add_beat(name, beat)
        self.assertFalse(one == two or one == three or two == three)

    def test_copies_change_apart(self):
        book = made()
        book["p"] = Plan(HOUSE)
        twin = book.copied()
        self.assertTrue(twin == book and twin is not book)
        self.assertIs(twin.__class__, Book)
        twin["c"] = Plan(HOUSE)
        twin["p"] = Plan(HOUSE, crew(WALK))
        twin.add_beat("again", WALK)
        self.assertEqual((list(book), book["p"], book.beat_names), (["p"], Plan(HOUSE), ["walk", "back"]))
        book.drop("p")
        book.add_beat("more", WALK)
        self.assertEqual((list(twin), twin.beat_names), (["p", "c"], ["walk", "back", "again"]))
        self.assertEqual(Book(HOUSE).copied(), Book(HOUSE))
