"""Layings: a target lot as turned tiles that have no hour in common."""

from watchbeats.bits import bits_of, listed
from watchbeats.errors import BadNumber, EmptyLot, OtherHours, TooMany
from watchbeats.lots import Lot

_MOST_HOURS = 12
_MOST_TILES = 2


class Laying:
    """The parts of a laying, or the tree of cases that shows that there is none."""

    def __init__(self, parts, tree):
        self.parts = parts
        self.tree = tree


def starts_of(parts, hours, index):
    """The lot of the starts of the parts of one tile."""
    return Lot(hours, [start for tile, start in parts if tile == index])


def lay(target, tiles):
    """A Laying of the target by the tiles."""
    held = list(tiles)
    _check(target, held)
    pieces = _pieces(target.hours, held)
    found = coverings(bits_of(target.members), pieces)
    if found:
        return Laying(_parts(target.hours, found[0]), None)
    return Laying(None, _tree(bits_of(target.members), held, pieces, {}))


def layings(target, tiles):
    """Yields all layings of the target by the tiles, in ascending order."""
    held = list(tiles)
    _check(target, held)
    for chosen in coverings(bits_of(target.members), _pieces(target.hours, held)):
        yield _parts(target.hours, chosen)


def count_layings(target, tiles):
    """The number of layings of the target by the tiles."""
    _check(target, tiles)
    return len(coverings(bits_of(target.members), _pieces(target.hours, tiles)))


def coverings(target, pieces):
    """All ascending lists of indexes of pieces that together are the target and share no bit, in ascending order."""
    # Each choice is one int in which the first piece has the highest bit:
    # the greater int is then the choice that comes first.
    marks = sorted([int(mark) for mark in _marks(target, pieces)], reverse=True)
    last = len(pieces) - 1
    return [[at for at in range(len(pieces)) if mark >> (last - at) & 1] for mark in marks]


def _marks(rest, pieces):
    """All choices of pieces that together are the rest, each as one int."""
    if rest == 0:
        return [0]
    lowest = rest & -rest
    marks = []
    for at, piece in enumerate(pieces):
        if piece & lowest and piece & rest == piece:
            mark = 1 << (len(pieces) - 1 - at)
            marks.extend([mark | more for more in _marks(rest - piece, pieces)])
    return marks


def _check(target, tiles):
    hours = target.hours
    if hours > _MOST_HOURS:
        raise BadNumber("hours", hours)
    if len(tiles) == 0:
        raise BadNumber("tiles", 0)
    if len(tiles) > _MOST_TILES:
        raise TooMany("tiles", _MOST_TILES)
    for tile in tiles:
        if tile.hours != hours:
            raise OtherHours()
        if len(tile) == 0:
            raise EmptyLot()


def _pieces(hours, tiles):
    """The bits of the lots of all parts, in ascending order of the parts."""
    return [bits_of((tile << start).members) for tile in tiles for start in range(hours)]


def _parts(hours, chosen):
    """The parts with these indexes among the pieces."""
    return [(at // hours, at % hours) for at in chosen]


def _tree(rest, tiles, pieces, known):
    """The tree of cases of a rest without a laying; `known` keeps those of the rests seen before."""
    if rest not in known:
        hour = _tightest(rest, pieces)
        branches = []
        for at in _parts_with(hour, tiles):
            piece = pieces[at]
            if piece & rest == piece:
                branches.append(_tree(rest - piece, tiles, pieces, known))
            else:
                branches.append(None)
        known[rest] = (hour, tuple(branches))
    return known[rest]


def _parts_with(hour, tiles):
    """The indexes of the pieces that contain the hour, in the order of the branches."""
    hours = tiles[0].hours
    return [at * hours + (hour - member) % hours for at, tile in enumerate(tiles) for member in tile]


def _tightest(rest, pieces):
    """The member of the rest that the fewest pieces within the rest contain, which keeps the tree small."""
    within = [piece for piece in pieces if piece & rest == piece]
    tightest = 0
    fewest = len(pieces) + 1
    for hour in listed(rest):
        many = len([piece for piece in within if piece >> hour & 1])
        if many < fewest:
            tightest = hour
            fewest = many
    return tightest
