"""Texts: books, line by line."""

from watchbeats.beats import REST, Beat
from watchbeats.books import Book
from watchbeats.crews import Crew
from watchbeats.errors import BadText, RepeatedName, WatchError
from watchbeats.houses import House
from watchbeats.lots import Lot
from watchbeats.plans import Plan
from watchbeats.whole import check_number
from watchbeats.words import read_hours, whole_of

_REST_WORD = "-"
_BETWEEN_CREWS = " ; "
# For each kind of line the kinds that can stand before it; the first line has no kind before it.
_BEHIND = {
    "hours": ("",),
    "gate": ("hours", "gate"),
    "beat": ("gate", "beat"),
    "plan": ("gate", "beat", "plan"),
}


class Reader:
    """The book as far as its lines were read."""

    def __init__(self):
        self.kind = ""
        self.hours = 0
        self.gates = []
        self.read_so_far = None

    def take(self, line):
        """Reads the next line; any error tells that it is bad."""
        words = line.split(" ")
        kind = words[0]
        if kind not in _BEHIND or self.kind not in _BEHIND[kind] or len(words) == 1:
            raise BadText(1)
        self.kind = kind
        if kind == "hours":
            self._take_hours(words[1:])
        elif kind == "gate":
            self._take_gate(words[1:])
        elif kind == "beat":
            self._take_beat(words[1], words[2:])
        else:
            self._take_plan(words[1], words[2:])

    def _take_hours(self, words):
        hours = whole_of(words[0])
        if len(words) != 1 or hours is None:
            raise BadText(1)
        check_number("hours", hours, 1, House.MOST_HOURS)
        self.hours = hours

    def _take_gate(self, words):
        stake = whole_of(words[-1])
        if len(words) != 2 or stake is None:
            raise BadText(1)
        self.gates = self.gates + [(words[0], stake)]
        self.read_so_far = Book(House(self.hours, self.gates))

    def _take_beat(self, name, words):
        house = self.read_so_far.house
        self.read_so_far.add_beat(name, Beat(house, [_step_of(house, word) for word in words]))

    def _take_plan(self, name, words):
        if name in self.read_so_far:
            raise RepeatedName(name)
        crews = []
        if words:
            crews = [self._crew_of(part) for part in " ".join(words).split(_BETWEEN_CREWS)]
        self.read_so_far.set_plan(name, Plan(self.read_so_far.house, *crews))

    def _crew_of(self, part):
        """The crew that the words between two separators tell."""
        words = part.split(" ")
        beat = self.read_so_far.beat_named(words[0])
        return Crew(beat, Lot(self.hours, read_hours(words[1:], self.hours)))


def write_book(book):
    """The text of a book."""
    house = book.house
    lines = [f"hours {house.hours}"]
    lines.extend([f"gate {name} {stake}" for name, stake in zip(house.names, house.stakes)])
    for name in book.beat_names:
        steps = [_word_of(house, step) for step in book.beat_named(name).steps]
        lines.append(" ".join(["beat", name] + steps))
    for name in book:
        line = f"plan {name}"
        crews = _BETWEEN_CREWS.join([_words_of_crew(book, crew) for crew in book[name].crews])
        if crews:
            line = f"{line} {crews}"
        lines.append(line)
    return "\n".join(lines)


def read_book(text):
    """The book with this text."""
    reader = Reader()
    for at, line in enumerate(text.split("\n")):
        try:
            reader.take(line)
        except WatchError:
            raise BadText(at + 1) from None
    if reader.read_so_far is None:
        raise BadText(2)
    return reader.read_so_far


def _step_of(house, word):
    if word == _REST_WORD:
        return REST
    return house.gate(word)


def _word_of(house, step):
    if step == REST:
        return _REST_WORD
    return house.names[step]


def _words_of_crew(book, crew):
    """The first name that the book has for the beat of the crew, and its starts."""
    names = [name for name in book.beat_names if book.beat_named(name) == crew.beat]
    return " ".join([names[0]] + [str(start) for start in crew.starts])
