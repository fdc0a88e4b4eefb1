"""Asking: how to find out with the fewest looks which watch stands."""

from watchbeats.bits import bits_of, listed
from watchbeats.errors import BadNumber, NoPlace
from watchbeats.tables import check_cells


class Asking:
    """The looks, one after another, that tell the members of a family apart; it does not change."""

    def __init__(self, family):
        check_cells(family.house)
        self.family = family
        self._cells = list(family.house.cells())
        # Groups are ints here, with one bit for each member.
        self._parts = [_parts_at(family, cell) for cell in self._cells]
        self._answers = _answers(self._parts, len(family))
        self.looks = self.need(list(range(len(family))))

    def need(self, indexes):
        """The need of a group."""
        need, at = self._answers[self._group(indexes)]
        return need

    def next_cell(self, indexes):
        """The first cell with which the need of a group is reached, or None."""
        need, at = self._answers[self._group(indexes)]
        if need == 0:
            return None
        return self._cells[at]

    def questions(self):
        """The tree of the group of all members."""
        return self._tree(self._group(list(range(len(self.family)))))

    def _group(self, indexes):
        """The int of a list of indexes."""
        if len(indexes) == 0:
            raise BadNumber("indexes", 0)
        before = -1
        for index in indexes:
            if index <= before or index >= len(self.family):
                raise NoPlace()
            before = index
        return bits_of(indexes)

    def _tree(self, group):
        """The first index of a group with need 0, or else its cell and the trees of its parts."""
        need, at = self._answers[group]
        if need == 0:
            return listed(group)[0]
        gate, hour = self._cells[at]
        branches = [(strength, self._tree(group & part)) for strength, part in self._parts[at] if group & part]
        return (gate, hour, tuple(branches))


def fixed_cells(family):
    """The first list of the fewest cells that tell all members apart that are not equal."""
    check_cells(family.house)
    watches = [family[kind[0]] for kind in family.kinds()]
    pairs = [(one, two) for at, one in enumerate(watches) for two in watches[at + 1:]]
    cells = list(family.house.cells())
    parted = [bits_of([at for at, (one, two) in enumerate(pairs) if one[cell] != two[cell]]) for cell in cells]
    wanted = bits_of(list(range(len(pairs))))
    many = 0
    chosen = _first_choice(parted, 0, many, wanted)
    while chosen is None:
        many = many + 1
        chosen = _first_choice(parted, 0, many, wanted)
    return [cells[at] for at in chosen]


def _parts_at(family, cell):
    """The pairs, in ascending order, of a strength at the cell and the group of the members that have it."""
    strengths = [watch[cell] for watch in family]
    return [(strength, bits_of([at for at, seen in enumerate(strengths) if seen == strength]))
            for strength in listed(bits_of(strengths))]


def _answers(parts_at, many):
    """For each group its need and the index of the first cell that reaches it; the index is None for the need 0."""
    answers = [(0, None)]
    for group in range(1, 1 << many):
        least = 0
        place = None
        for at, pairs in enumerate(parts_at):
            parts = [group & part for strength, part in pairs]
            if group not in parts:
                need = 1 + max([int(answers[part][0]) for part in parts])
                if place is None or need < least:
                    least = need
                    place = at
        answers.append((least, place))
    return answers


def _first_choice(parted, first, many, wanted):
    """The first list of so many indexes from `first` on whose bits together hold all that is wanted, or None."""
    if many == 0:
        if wanted == 0:
            return []
        return None
    for at in range(first, len(parted)):
        rest = _first_choice(parted, at + 1, many - 1, wanted & ~parted[at])
        if rest is not None:
            return [at] + rest
    return None
