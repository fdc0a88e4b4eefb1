"""Seasons: one member is drawn and stands, and a caller looks and tries."""

from watchbeats.afterwards import after
from watchbeats.best import best_spread
from watchbeats.errors import AlreadySeen, NoPlace, NotDrawn, TooMany
from watchbeats.houses import is_cell
from watchbeats.kept import Kept
from watchbeats.losses import loss
from watchbeats.pasts import check_looks, check_open, join_pasts, known_cells, left_of
from watchbeats.ratio import as_ratio
from watchbeats.shares import check_weights
from watchbeats.spreads import check_tries, total_tries
from watchbeats.tickets import Tickets

_MOST_TRIES = 3
_MOST_LOOKS = 3


class Moment:
    """What a season shows: who stands, the past since the draw, the sum of the losses, and the number of draws."""

    def __init__(self, member, past, loss_sum, draw_count):
        self.member = member
        self.past = past
        self.loss_sum = loss_sum
        self.draw_count = draw_count


class Season(Kept):
    """A live season of a family that is drawn by weights."""

    def __init__(self, family, weights, *, bound, tries=1, looks=1):
        check_weights(weights, family)
        check_tries(tries, _MOST_TRIES)
        check_looks(looks, _MOST_LOOKS)
        super().__init__(Moment(None, (), 0, 0))
        self.family = family
        self.weights = [as_ratio(weight) for weight in weights]
        self.bound = as_ratio(bound)
        self.tries = tries
        self.looks = looks
        self._tickets = Tickets(weights)

    @property
    def standing(self):
        """The index of the member that stands, or None before the first draw."""
        return self._history.state.member

    @property
    def looked(self):
        """The past of all looks since the last draw."""
        return self._history.state.past

    @property
    def lost(self):
        """The sum of the losses of all attempts."""
        return self._history.state.loss_sum

    @property
    def draws(self):
        """The number of draws."""
        return self._history.state.draw_count

    def draw(self, ticket):
        """The member of the ticket stands from now on."""
        member = self._tickets.ticket(ticket)
        self._keep(Moment(member, (), self.lost, self.draws + 1))

    def look(self, gate, hour):
        """The caller looks at a cell; returns the strength there."""
        watch = self._watch_now()
        cell = (gate, hour)
        if not is_cell(self.family.house, cell):
            raise NoPlace()
        if cell in known_cells(self.looked):
            raise AlreadySeen(cell)
        if len(self.looked) == self.looks:
            raise TooMany("looks", self.looks)
        strength = watch[cell]
        past = join_pasts(self.family.house, self.looked, ((gate, hour, strength),))
        self._keep(Moment(self.standing, past, self.lost, self.draws))
        return strength

    def attempt(self, spread):
        """The caller makes the tries of a spread; returns the loss."""
        watch = self._watch_now()
        if total_tries(self.family.house, spread) > self.tries:
            raise TooMany("tries", self.tries)
        check_open(spread, self.looked)
        lost_now = loss(watch, spread)
        self._keep(Moment(self.standing, self.looked, self.lost + lost_now, self.draws))
        return lost_now

    def left(self):
        """The ascending list of the indexes of the members that may stand, as far as the caller knows."""
        self._watch_now()
        return [at for at in left_of(self.family, self.looked) if self.weights[at] > 0]

    def weights_now(self):
        """The list of the weights after what was seen."""
        self._watch_now()
        return after(self.weights, self.family, self.looked)

    def worst(self):
        """The greatest mean loss, by the weights now, of the tries that the caller can make."""
        known = known_cells(self.looked)
        return best_spread(list(self.family), self.weights_now(), tries=self.tries, known=known).worth

    def safe(self):
        """True if no tries have a mean loss above the bound."""
        return self.worst() <= self.bound

    def _watch_now(self):
        """The watch that stands."""
        if self.standing is None:
            raise NotDrawn()
        return self.family[self.standing]

    def _calls(self):
        calls = super()._calls()
        calls["draw"] = (1, self.draw)
        calls["look"] = (2, self.look)
        calls["attempt"] = (1, self.attempt)
        return calls
