"""The desk: lines of words that change a book or ask about it."""

from watchbeats.charts import chart
from watchbeats.errors import BadLine, TooMany, WatchError
from watchbeats.families import Family
from watchbeats.fewest import fewest_starts
from watchbeats.histories import History
from watchbeats.settles import settle
from watchbeats.tables import close_table
from watchbeats.turning import turned_bound
from watchbeats.words import number_of, write_number

_MOST_LINES = 60
# What stands behind the first word of each line; `plans` are one or more names up to the end.
_FORMS = {
    "copy": ("name", "name"),
    "turn": ("name", "whole"),
    "join": ("name", "name"),
    "without": ("name", "whole"),
    "drop": ("name",),
    "undo": (),
    "redo": (),
    "chart": ("name",),
    "bound": ("name", "whole", "whole"),
    "close": ("number", "whole", "whole", "plans"),
    "settle": ("whole", "whole", "whole", "plans"),
    "fewest": ("name", "whole"),
}


class Desk:
    """A copy of a book that lines change, and whose changes can be undone."""

    def __init__(self, book):
        self._history = History([book.copied()], 0)

    def book(self):
        """A copy of the book now."""
        return self._history.state.copied()

    def run(self, lines):
        """Runs all of the lines, or none; returns the list of the rows that they print."""
        if len(lines) > _MOST_LINES:
            raise TooMany("lines", _MOST_LINES)
        before = self._history
        rows = []
        for at, line in enumerate(lines):
            words = line.split(" ")
            items = _items_of(words)
            if items is None:
                self._history = before
                raise BadLine(at + 1)
            try:
                rows.extend(self._rows_of(words[0], items))
            except WatchError as wrong:
                self._history = before
                raise BadLine(at + 1) from wrong
        return rows

    def _rows_of(self, word, items):
        """The rows that the line of a word with these items prints."""
        calls = {
            "copy": self._copy, "turn": self._turn, "join": self._join, "without": self._without, "drop": self._drop,
            "undo": self._undo, "redo": self._redo, "chart": self._chart, "bound": self._bound, "close": self._close,
            "settle": self._settle, "fewest": self._fewest,
        }
        call = calls[word]
        return call(*items)

    def _copy(self, name, new):
        self._set(new, self._plan(name))
        return [f"{new} copied"]

    def _turn(self, name, by):
        self._set(name, self._plan(name) << by)
        return [f"{name} turned"]

    def _join(self, name, other):
        self._set(name, self._plan(name) + self._plan(other))
        return [f"{name} joined"]

    def _without(self, name, index):
        self._set(name, self._plan(name).without(index))
        return [f"{name} parted"]

    def _drop(self, name):
        book = self.book()
        book.drop(name)
        self._history = self._history.grown(book)
        return [f"{name} dropped"]

    def _undo(self):
        self._history = self._history.undone()
        return ["undone"]

    def _redo(self):
        self._history = self._history.redone()
        return ["redone"]

    def _chart(self, name):
        return chart(self._plan(name).watch())

    def _bound(self, name, tries, looks):
        turned = turned_bound(self._plan(name).watch(), tries=tries, looks=looks)
        return [f"bound {write_number(turned.bound)}"]

    def _close(self, bound, tries, looks, names):
        table = close_table(self._family(names), bound, tries=tries, looks=looks)
        if table.held:
            return [f"held {write_number(table.value)}"]
        return [f"beaten {write_number(-table.value)}"]

    def _settle(self, parts, tries, looks, names):
        least = settle(self._family(names), parts, tries=tries, looks=looks)
        return [f"settled {least}"]

    def _fewest(self, name, need):
        beat = self._history.state.beat_named(name)
        gates = len(beat.house)
        fewest = fewest_starts([beat.lot(gate) for gate in range(gates)], [need] * gates)
        return [f"fewest {len(fewest.starts)}"]

    def _plan(self, name):
        return self._history.state[name]

    def _set(self, name, plan):
        """Sets a plan, as a deed of the desk."""
        book = self.book()
        book[name] = plan
        self._history = self._history.grown(book)

    def _family(self, names):
        """The family of the watches of the plans."""
        return Family(self._history.state.house, [self._plan(name).watch() for name in names])


def _items_of(words):
    """What stands behind the first word of a line, or None if the line has none of the forms."""
    if "" in words or words[0] not in _FORMS:
        return None
    form = _FORMS[words[0]]
    rest = words[1:]
    if len(rest) < len(form) or (len(rest) > len(form) and "plans" not in form):
        return None
    items = []
    for at, kind in enumerate(form):
        item = rest[at]
        if kind == "plans":
            item = rest[at:]
        elif kind != "name":
            item = _number_of(item, kind)
        if item is None:
            return None
        items.append(item)
    return items


def _number_of(word, kind):
    """The written number of this kind, or None; a whole one is an int."""
    number = number_of(word)
    if number is None or kind == "number":
        return number
    if number.whole:
        return number.top
    return None
