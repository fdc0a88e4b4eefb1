"""Kept objects: their deeds can be undone, run together, and tried."""

from watchbeats.errors import FailedDeed, WatchError
from watchbeats.histories import History


class Kept:
    """An object that changes by deeds, and whose state is kept after each of them."""

    def __init__(self, state):
        self._history = History([state], 0)

    @property
    def done(self):
        """The number of deeds that stand."""
        return self._history.deeds

    def undo(self):
        """Takes back the last deed that stands."""
        self._history = self._history.undone()

    def redo(self):
        """Does again the deed that was undone last."""
        self._history = self._history.redone()

    def run(self, deeds):
        """Does all that the tuples of a list tell, or nothing; returns the list of the results."""
        before = self._history
        results = []
        for at, deed in enumerate(deeds):
            if not self._has_form(deed):
                self._history = before
                raise FailedDeed(at)
            try:
                results.append(self._result_of(deed))
            except WatchError as wrong:
                self._history = before
                raise FailedDeed(at) from wrong
        return results

    def trial(self):
        """A context in which the object can change, and after which it is as it was."""
        return Trial(self)

    def _calls(self):
        """For the name of each call of a run the number of its arguments and the call."""
        return {"undo": (0, self.undo), "redo": (0, self.redo)}

    def _has_form(self, deed):
        calls = self._calls()
        return len(deed) > 0 and deed[0] in list(calls) and calls[deed[0]][0] == len(deed) - 1

    def _result_of(self, deed):
        many, call = self._calls()[deed[0]]
        rest = deed[1:]
        return call(*rest)

    def _keep(self, state):
        """Makes the state that of a new deed."""
        self._history = self._history.grown(state)


class Trial:
    """A context that gives a kept object and leaves it as it was when the context was entered."""

    def __init__(self, kept):
        self._kept = kept
        self._history = None

    def __enter__(self):
        self._history = self._kept._history
        return self._kept

    def __exit__(self, kind, value, trace):
        kept = self._kept
        kept._history = self._history


def tried(kept, deeds):
    """The results of the deeds, which are then taken back."""
    with kept.trial() as held:
        return held.run(deeds)
