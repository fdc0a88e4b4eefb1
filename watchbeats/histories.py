"""Histories: what an object shows after each of its deeds."""

from watchbeats.errors import NothingLeft


class History:
    """The state of an object at first and after each deed, and how many of the deeds stand; it does not change."""

    def __init__(self, states, deeds):
        self.states = states
        self.deeds = deeds
        self.state = states[deeds]

    def grown(self, state):
        """The history with a new deed; what was undone is forgotten."""
        return History(self.states[:self.deeds + 1] + [state], self.deeds + 1)

    def undone(self):
        """The history without the last deed that stands."""
        if self.deeds == 0:
            raise NothingLeft()
        return History(self.states, self.deeds - 1)

    def redone(self):
        """The history with the deed that was undone last."""
        if self.deeds + 1 == len(self.states):
            raise NothingLeft()
        return History(self.states, self.deeds + 1)
