"""The error classes of the whole program."""

import unittest

from parcelindex import errors

FAMILIES = {
    "ParcelError": (ValueError, {
        "BadVersion": "given", "BadRange": "given", "BadEnvironment": "given", "BadMarker": "given",
        "BadRequirement": "given", "BadName": "given", "BadPath": "given", "BadText": "given", "BadCount": "given",
        "BadEvent": "given", "BadWay": "given", "BadStep": "place", "BadParcel": "line", "BadLock": "line",
        "BadBase": "line"}),
    "ChoiceError": (RuntimeError, {
        "NoChoice": "clash", "TooWide": "most", "PathClash": "given", "Foreign": "given", "NoRoom": "wanted",
        "Damaged": "found", "Pending": "begun", "PowerCut": "done", "WrongSum": "given", "NotClosed": "given",
        "NoRepair": "given", "Taken": "given"}),
    "AbsentError": (LookupError, {
        "NoName": "given", "NoRelease": "given", "NoParcel": "given", "NoRequest": "given", "NoPath": "given",
        "NoPast": "given", "NoMark": "given", "NoSection": "given"}),
}
FIELDS = {name: field for _, rows in FAMILIES.values() for name, field in rows.items()}


class Stranger:
    """An object that can hardly be used."""

    def __eq__(self, other):
        raise AssertionError("compared")

    def __repr__(self):
        raise AssertionError("shown")

    def __bool__(self):
        raise AssertionError("tested")


VALUES = (0, 7, -1, 10 ** 6000, True, "", "tea", "1.2\n\u20ac\ud800", None, (), ("tea", 1), [], {}, b"a", 1.5, len,
          object(), Stranger(), ValueError("x"))


class ErrorsTest(unittest.TestCase):
    def test_families(self):
        for family, (base, rows) in FAMILIES.items():
            self.assertEqual(getattr(errors, family).__bases__, (base,))
            for name in rows:
                self.assertEqual(getattr(errors, name).__bases__, (getattr(errors, family),), name)

    def test_classes_are_defined_here_and_no_others(self):
        found = {name for name, thing in vars(errors).items() if isinstance(thing, type)}
        self.assertEqual(found, set(FIELDS) | set(FAMILIES))
        for name in found:
            self.assertEqual(getattr(errors, name).__module__, "parcelindex.errors")
            self.assertEqual(getattr(errors, name).__name__, name)

    def test_constructors_stand_in_the_classes(self):
        for name in FIELDS:
            self.assertIn("__init__", vars(getattr(errors, name)))

    def test_field_by_position_and_by_name(self):
        for name, field in FIELDS.items():
            for value in VALUES:
                with self.subTest(name=name):
                    error = getattr(errors, name)(value)
                    self.assertIs(getattr(error, field), value)
                    self.assertEqual(set(vars(error)), {field})
                    error = getattr(errors, name)(**{field: value})
                    self.assertIs(getattr(error, field), value)
                    self.assertEqual(set(vars(error)), {field})

    def test_just_one_field(self):
        for name, field in FIELDS.items():
            for call in (lambda made: made(), lambda made: made(1, 2), lambda made: made(other=1)):
                with self.assertRaises(TypeError):
                    call(getattr(errors, name))

    def test_no_instance_of_one_is_an_instance_of_another(self):
        for name in FIELDS:
            error = getattr(errors, name)(1)
            self.assertEqual([other for other in FIELDS if isinstance(error, getattr(errors, other))], [name])
            self.assertEqual(len([one for one in FAMILIES if isinstance(error, getattr(errors, one))]), 1)

    def test_raised_and_caught(self):
        for family, (base, rows) in FAMILIES.items():
            for name, field in rows.items():
                for caught in (base, getattr(errors, family), getattr(errors, name)):
                    with self.assertRaises(caught) as held:
                        raise getattr(errors, name)("tea")
                    self.assertEqual(getattr(held.exception, field), "tea")

    def test_objects_do_not_share_their_field(self):
        one, other = errors.NoName("tea"), errors.NoName("cup")
        self.assertEqual((one.given, other.given), ("tea", "cup"))


if __name__ == "__main__":
    unittest.main()
