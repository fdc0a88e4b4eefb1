"""Point 3: the errors, their base classes and their attributes."""

from tests.checks import Case
from watchbeats import errors

DIRECT = {
    "ZeroUnder": (), "BadNumber": ("name", "value"), "TooMany": ("name", "most"), "RepeatedHour": ("hour",),
    "Meets": ("hour",), "OtherHours": (), "OtherHouse": (), "NotADivisor": ("number",),
    "SharedFactor": ("factor",), "WrongLength": ("length",), "EmptyLot": (), "NotEnough": ("index",),
    "NoPlace": (), "BadName": ("name",), "RepeatedName": ("name",), "UnknownName": ("name",),
    "BadSpread": ("index",), "BadPast": ("index",), "KnownCell": ("cell",), "Contradiction": ("cell",),
    "BadShares": (), "NeverSeen": (), "BadStretch": ("index",), "NoBeat": ("index",),
    "FailedDeed": ("index",), "BadText": ("line",), "BadLine": ("line",), "Refused": (),
}
REFUSED = {
    "NotDrawn": (), "NothingLeft": (), "AlreadySeen": ("cell",), "AlreadyAway": ("name",), "NotAway": ("name",),
}


class ErrorsTest(Case):

    def test_base_class(self):
        self.assertEqual(errors.WatchError.__bases__, (ValueError,))

    def test_direct_classes(self):
        for name in DIRECT:
            self.assertEqual(getattr(errors, name).__bases__, (errors.WatchError,), name)

    def test_refused_classes(self):
        for name in REFUSED:
            self.assertEqual(getattr(errors, name).__bases__, (errors.Refused,), name)

    def test_no_other_classes(self):
        found = {name for name in vars(errors) if isinstance(vars(errors)[name], type)}
        self.assertEqual(found, {"WatchError", *DIRECT, *REFUSED})

    def test_attributes_in_order(self):
        for name, attributes in {**DIRECT, **REFUSED}.items():
            values = [object() for _ in attributes]
            error = getattr(errors, name)(*values)
            self.assertEqual(vars(error), dict(zip(attributes, values)), name)

    def test_defined_there(self):
        for name in {"WatchError": (), **DIRECT, **REFUSED}:
            self.assertEqual(getattr(errors, name).__module__, "watchbeats.errors")

    def test_are_value_errors(self):
        for name, attributes in {**DIRECT, **REFUSED}.items():
            with self.assertRaises(ValueError):
                raise getattr(errors, name)(*attributes)
