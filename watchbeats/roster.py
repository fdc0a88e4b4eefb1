"""Rosters: crews that come and go, and people who may be away."""

from watchbeats.errors import AlreadyAway, NotAway, OtherHours, UnknownName
from watchbeats.kept import Kept
from watchbeats.people import man
from watchbeats.plans import Plan


class Duty:
    """What a roster shows: its plan, its staff of names with lots, and the names of those who are away."""

    def __init__(self, crew_plan, staff, absent):
        self.crew_plan = crew_plan
        self.staff = staff
        self.absent = absent
        self.staff_here = [(name, lot) for name, lot in staff if name not in absent]
        # Kept here because a property is only to read; this also refuses what cannot be manned.
        self.unmanned = man(crew_plan, self.staff_here).missing

    def place_of(self, name):
        """The index of the person with this name."""
        names = [known for known, lot in self.staff]
        if name not in names:
            raise UnknownName(name)
        return names.index(name)


class Roster(Kept):
    """A live roster of the crews of a plan and the people who walk their guards."""

    def __init__(self, plan, people):
        super().__init__(Duty(plan, list(people), []))

    @property
    def plan(self):
        """The plan now."""
        return self._history.state.crew_plan

    @property
    def present(self):
        """The list of the names of those who are not away."""
        return [name for name, lot in self._history.state.staff_here]

    @property
    def missing(self):
        """The number of guards whom nobody present can be found for."""
        return self._history.state.unmanned

    def manning(self):
        """The Manning of the plan now by the people present."""
        return man(self.plan, self._history.state.staff_here)

    def away(self, name):
        """The person is away from now on."""
        duty = self._history.state
        duty.place_of(name)
        if name in duty.absent:
            raise AlreadyAway(name)
        self._keep(Duty(duty.crew_plan, duty.staff, duty.absent + [name]))

    def back(self, name):
        """The person is not away any more."""
        duty = self._history.state
        duty.place_of(name)
        if name not in duty.absent:
            raise NotAway(name)
        self._keep(Duty(duty.crew_plan, duty.staff, [other for other in duty.absent if other != name]))

    def allow(self, name, lot):
        """The lot of the person becomes this one."""
        duty = self._history.state
        at = duty.place_of(name)
        # Who is away is not manned, but still has a lot of this house.
        if lot.hours != duty.crew_plan.house.hours:
            raise OtherHours()
        self._keep(Duty(duty.crew_plan, duty.staff[:at] + [(name, lot)] + duty.staff[at + 1:], duty.absent))

    def put(self, crew):
        """The crew is put behind the others."""
        self._change_plan(self.plan + Plan(self.plan.house, crew))

    def strike(self, index):
        """The crew with this index is taken out."""
        self._change_plan(self.plan.without(index))

    def __iadd__(self, other):
        self.put(other)
        return self

    def _change_plan(self, crew_plan):
        duty = self._history.state
        self._keep(Duty(crew_plan, duty.staff, duty.absent))

    def _calls(self):
        calls = super()._calls()
        calls["away"] = (1, self.away)
        calls["back"] = (1, self.back)
        calls["allow"] = (2, self.allow)
        calls["put"] = (1, self.put)
        calls["strike"] = (1, self.strike)
        return calls
