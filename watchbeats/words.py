"""Written forms: numbers, lots, spreads and pasts as text."""

from watchbeats.errors import BadText, WatchError
from watchbeats.lots import Lot
from watchbeats.pasts import total_looks
from watchbeats.ratio import Ratio, as_ratio
from watchbeats.spreads import total_tries

_MOST_DIGITS = 60


def write_number(number):
    """The text of a number."""
    return str(as_ratio(number))


def read_number(text):
    """The Ratio that the text writes."""
    number = number_of(text)
    if number is None:
        raise BadText(1)
    return number


def write_lot(lot):
    """The text of a lot: its members and its hours."""
    members = _line_of([str(member) for member in lot])
    return f"{members} of {lot.hours}"


def read_lot(text):
    """The lot that the text writes."""
    words = text.split(" ")
    hours = whole_of(words[-1])
    if len(words) < 3 or words[-2] != "of" or hours is None or hours < 1 or hours > Lot.MOST:
        raise BadText(1)
    if words[:-2] == ["none"]:
        return Lot(hours, [])
    return Lot(hours, read_hours(words[:-2], hours))


def write_spread(house, spread):
    """The text of a spread: a word for each triple."""
    total_tries(house, spread)
    return _text_of(house, spread, "*")


def read_spread(house, text):
    """The spread that the text writes."""
    spread = _triples_of(house, text, "*")
    try:
        total_tries(house, spread)
    except WatchError:
        raise BadText(1) from None
    return spread


def write_past(house, past):
    """The text of a past: a word for each triple."""
    total_looks(house, past)
    return _text_of(house, past, "=")


def read_past(house, text):
    """The past that the text writes."""
    past = _triples_of(house, text, "=")
    try:
        total_looks(house, past)
    except WatchError:
        raise BadText(1) from None
    return past


def number_of(text):
    """The Ratio that the text writes, or None if it is no written number."""
    first, line, last = text.removeprefix("-").partition("/")
    top = whole_of(first)
    under = whole_of(last)
    if line == "":
        under = 1
    if top is None or under is None or under == 0:
        return None
    number = Ratio(top, under)
    if text.startswith("-"):
        number = -number
    # A fraction that is not in lowest terms, or a minus before 0, would be written in another way.
    if write_number(number) != text:
        return None
    return number


def whole_of(text):
    """The whole number that the text writes without a sign and without a 0 in front, or None."""
    if not text.isdigit() or len(text) > _MOST_DIGITS:
        return None
    if text.startswith("0") and text != "0":
        return None
    return int(text)


def read_hours(words, hours):
    """The hours of a ring that the words write, which must ascend; raises BadText(1)."""
    members = []
    before = -1
    for word in words:
        member = whole_of(word)
        if member is None or member <= before or member >= hours:
            raise BadText(1)
        members.append(member)
        before = member
    return members


def _line_of(words):
    """The words with spaces between them, or `none` if there are none."""
    if len(words) == 0:
        return "none"
    return " ".join(words)


def _text_of(house, triples, sign):
    return _line_of([f"{house.names[gate]}@{hour}{sign}{many}" for gate, hour, many in triples])


def _triples_of(house, text, sign):
    if text == "none":
        return ()
    return tuple([_triple_of(house, word, sign) for word in text.split(" ")])


def _triple_of(house, word, sign):
    """The triple of a word; whether its numbers fit the house is not looked at."""
    name, first_sign, numbers = word.partition("@")
    first, second_sign, last = numbers.partition(sign)
    hour = whole_of(first)
    many = whole_of(last)
    if name not in house.names or hour is None or many is None:
        raise BadText(1)
    return (house.gate(name), hour, many)
