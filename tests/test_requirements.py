"""Requirements: their texts, their parts and what makes them equal."""

import itertools
import random
import unittest

import model
import parcel_model
from parcelindex.errors import BadMarker, BadName, BadRange, BadRequirement
from parcelindex.markers import Marker
from parcelindex.ranges import Range
from parcelindex.requirements import Requirement
from parcelindex.versions import Version

NAMES = ("tea", "a", "t-", "green-tea-2", "none", "not", "abcdefghijklmnopqrst")
EXTRAS = ((), ("ice",), ("ice", "milk"), ("b", "aa"), ("z", "aa", "ab", "abcdefghijkl"))
RANGES = ("", "*", ">=1,<2", "==1", "==1.0", "<0a0", "<2", "!=1", "~=1.4", "<1|>2", ">=1,<1.0.0.1a0", "<2|>=2", ">=2a0")
MARKERS = ("", "; always", "; level < 3", "; not (system == north or level<3)", "; (always)", "; never", "; not not always")
# Each text stands beside the one that the requirement gives.
WRITTEN = (("tea", "tea"), ("tea*", "tea"), ("tea; always", "tea"), ("tea*; always", "tea"), ("tea[ice]", "tea[ice]"),
           ("tea[ice]*", "tea[ice]"), ("tea[ice,milk]>=1,<2; system == north", "tea[ice,milk]>=1,<2; system == north"),
           ("tea<0a0", "tea<0a0"), ("tea<1,>2", "tea<0a0"), ("tea==1.0", "tea==1"), ("tea<2|>=2", "tea"),
           ("tea; (always)", "tea"), ("tea; not never", "tea; not never"), ("tea; not not always", "tea; not not always"),
           ("tea; level<3", "tea; level < 3"), ("tea>=2a0; level<3", "tea>=2a0; level < 3"),
           ("none", "none"), ("none<0a0", "none<0a0"), ("none*", "none"), ("tea[b,aa]", "tea[b,aa]"), ("t-2==3", "t-2==3"),
           ("tea~=1.4", "tea>=1.4,<2a0"), ("tea!=1; never", "tea<1|>1; never"), ("tea; always and always", "tea; always and always"))
WRONG = ("", " ", "Tea", "2tea", "-tea", "tea ", " tea", "tea[]", "tea[milk,ice]", "tea[ice,ice]", "tea[aa,b]", "tea[ice",
         "teaice]", "tea]", "tea[", "tea[ice]]", "tea[[ice]", "tea[ice][milk]", "tea[ice,]", "tea[,ice]", "tea[ice, milk]",
         "tea[ ice]", "tea [ice]", "tea[Ice]", "tea[ice1]", "tea[abcdefghijklm]", "[ice]", "[ice]tea", "tea>=1[ice]",
         "tea ;level < 3", "tea;level < 3", "tea ; level < 3", "tea;  level < 3", "tea; ", "tea;", "tea; level < 3 ",
         "tea; level < 3; level < 4", "tea; north", "tea; Always", "tea; system = north", "tea; level < 03", "; always",
         "tea,cup", "tea|cup", "tea >=1", "tea>= 1", "tea>=1 ", "tea>=1, <2", "tea>=1,", "tea>=1|", "tea>=", "tea==",
         "tea=1", "tea1.0", "tea==1.2.3.4.5", "tea==01", "tea==1000", "tea~=1", "tea**", "tea*>=1", "tea>=1*",
         "tea[ice]none", "tea[ice]cup", "tea none", "tea,none", "tea|none", "tea==1|none", "tea_2", "tea.2", "tea/2", "tea\n",
         "\ntea", "tea\nalways", "tea; always\n", "tea;\nalways", "tea; \nalways", "abcdefghijklmnopqrstu", "t\u00e9a", "tea\0",
         "tea==" + "1" * 5000, "tea; level == " + "1" * 5000, "tea[" + "a," * 5000 + "a]", "\ud800", "tea; tea", "tea(1)")


class ReadingTest(unittest.TestCase):
    def check(self, text):
        parts = parcel_model.parts_of(text)
        if parts is None:
            with self.assertRaises(BadRequirement) as held:
                Requirement(text)
            self.assertIs(held.exception.given, text)
            return
        found = Requirement(text)
        name, extras, versions, marker = parts
        self.assertEqual((found.name, found.extras), (name, extras))
        self.assertEqual(found.versions, Range(versions))
        self.assertEqual(str(found.marker), str(Marker(marker)))
        self.assertEqual(str(found), parcel_model.text_of(text), text)
        again = Requirement(str(found))
        self.assertEqual(again, found)
        self.assertEqual(str(again), str(found))

    def test_each_part_in_each_combination(self):
        for name, extras, versions, marker in itertools.product(NAMES, EXTRAS, RANGES, MARKERS):
            words = "[" + ",".join(extras) + "]" if extras else ""
            text = name + words + versions + marker
            self.assertIsNotNone(parcel_model.parts_of(text), text)
            self.check(text)

    def test_parts(self):
        found = Requirement(text="tea[ice,milk]>=1,<2; system == north")
        self.assertEqual((found.name, found.extras), ("tea", ("ice", "milk")))
        self.assertEqual((found.versions, str(found.versions)), (Range(">=1,<2"), ">=1,<2"))
        self.assertEqual((found.marker, str(found.marker)), (Marker("system == north"), "system == north"))
        plain = Requirement("tea")
        self.assertEqual((plain.extras, str(plain.versions), str(plain.marker)), ((), "*", "always"))
        self.assertIs(type(plain.versions), Range)
        self.assertIs(type(plain.marker), Marker)
        self.assertEqual(Requirement("tea<0a0").versions, Range("none"))

    def test_written_texts(self):
        for text, wanted in WRITTEN:
            self.assertEqual(str(Requirement(text)), wanted)
            self.check(text)

    def test_wrong_texts(self):
        for text in WRONG:
            self.assertIsNone(parcel_model.parts_of(text), text)
            self.check(text)

    def test_texts_with_one_change(self):
        for text in ("tea", "tea*", "tea[ice,milk]>=1,<2; level < 3", "a-1[b]==1|==2", "tea; always", "t<0a0", "tea[b,aa]"):
            for other in model.neighbors(text, "an-A01=<>!~,|*;[] \n"):
                self.check(other)

    def test_parts_exchanged(self):
        parts = ("tea", "[", "ice", ",", "milk", "]", ">=1", ";", " ", "level < 3")
        for one, other in itertools.combinations(range(len(parts)), 2):
            row = list(parts)
            row[one], row[other] = row[other], row[one]
            self.check("".join(row))
        for at in range(len(parts)):
            self.check("".join(parts[:at] + parts[at + 1:]))
            self.check("".join(parts[:at] + parts[at:at + 1] * 2 + parts[at + 1:]))

    def test_all_lengths_of_names(self):
        for many in range(25):
            for sign in "a0-":
                self.check(sign * many)
                self.check("a" + sign * many + "==1")

    def test_other_objects(self):
        for thing in model.OTHERS + (0, 1, (), [], Requirement("tea"), Range(), Marker(), ("tea",), b"tea"):
            with self.assertRaises(BadRequirement) as held:
                Requirement(thing)
            self.assertIs(held.exception.given, thing)
            with self.assertRaises(BadRequirement) as held:
                Requirement(text=thing)
            self.assertIs(held.exception.given, thing)


class OfTest(unittest.TestCase):
    def refused(self, kind, given, *row, **parts):
        with self.assertRaises(kind) as held:
            Requirement.of(*row, **parts)
        self.assertIs(held.exception.given, given)
        self.assertIs(type(held.exception), kind)

    def test_each_part_in_each_combination(self):
        for name, extras, versions, marker in itertools.product(NAMES, EXTRAS, RANGES[1:], ("always", "level < 3", "not (always or never)")):
            wanted = parcel_model.written(name, extras, str(Range(versions)), marker)
            for row in itertools.permutations(extras) if len(extras) < 4 else (extras, extras[::-1]):
                found = Requirement.of(name, extras=tuple(row), versions=Range(versions), marker=Marker(marker))
                self.assertEqual((found.name, found.extras), (name, extras))
                self.assertEqual((found.versions, found.marker), (Range(versions), Marker(marker)))
                self.assertEqual(str(found), wanted)
                self.assertIs(type(found), Requirement)
                self.assertEqual(Requirement(str(found)), found)

    def test_defaults_and_none(self):
        self.assertEqual(str(Requirement.of("tea")), "tea")
        self.assertEqual(str(Requirement.of(name="tea")), "tea")
        self.assertEqual(str(Requirement.of("tea", versions=None, marker=None, extras=())), "tea")
        self.assertEqual(str(Requirement.of("tea", marker=Marker("never"))), "tea; never")
        self.assertEqual(str(Requirement.of("tea", versions=Range("none"))), "tea<0a0")
        self.assertEqual(str(Requirement.of("tea", extras=("milk", "ice"))), "tea[ice,milk]")
        self.assertEqual(str(Requirement.of("tea", extras=("aa", "b"))), "tea[b,aa]")
        self.assertEqual(str(Requirement.of("tea", marker=Marker("not never"))), "tea; not never")
        joined = Marker("level < 3") & (Marker("system == a") & Marker("machine == b"))
        self.assertEqual(str(Requirement.of("tea", marker=joined)), "tea; level < 3 and system == a and machine == b")

    def test_by_name_only(self):
        for row in (("tea", ()), ("tea", (), None), ("tea", (), None, None)):
            with self.assertRaises(TypeError):
                Requirement.of(*row)

    def test_errors_in_their_order(self):
        wrong_extras = model.OTHERS[1:] + (0, "ice", ["ice"], ("",), ("Ice",), ("ice", "ice"), ("ice", 1), ("ice", None),
                                           ("abcdefghijklm",), ("b", "aa", "b"), (("ice",),), None)
        for thing in model.OTHERS + (0, "", "Tea", "2tea", "abcdefghijklmnopqrstu", "tea>=1", ("tea",), "tea\n"):
            self.refused(BadName, thing, thing)
            self.refused(BadName, thing, name=thing)
            self.refused(BadName, thing, thing, extras=0, versions=0, marker=0)
            if thing is not None:
                self.refused(BadRange, thing, "tea", versions=thing)
                self.refused(BadRange, thing, "tea", marker=0, versions=thing)
                self.refused(BadMarker, thing, "tea", marker=thing)
                self.refused(BadMarker, thing, "tea", extras=("ice",), versions=Range(), marker=thing)
        for thing in wrong_extras:
            self.refused(BadName, thing, "tea", extras=thing)
            self.refused(BadName, thing, "tea", marker="always", versions=">=1", extras=thing)
        self.refused(BadRange, Version, "tea", versions=Version)
        for thing in (Version("1"), Marker(), "*", ">=1"):
            self.refused(BadRange, thing, "tea", versions=thing)
        for thing in (Range(), "always", Requirement("tea")):
            self.refused(BadMarker, thing, "tea", marker=thing)


class EqualityTest(unittest.TestCase):
    def test_equal_names_extras_ranges_and_markers(self):
        texts = ("tea", "tea*", "tea; always", "tea; not never", "tea; level >= 0", "tea<2|>=2", "tea<0a0", "tea<1,>2", "tea; never",
                 "cup", "tea[ice]", "tea[ice,milk]", "tea==1", "tea==1.0", "tea>=1,<1.0.0.1a0", "tea==1; level < 3",
                 "tea==1; level <= 2", "tea==1; not level > 2", "tea==1; level < 4", "tea[ice]==1", "tea!=1", "tea<1|>1",
                 "tea; system == a and machine == b", "tea; machine == b and system == a")
        for one, other in itertools.product(texts, repeat=2):
            (name, extras, versions, marker), its = parcel_model.parts_of(one), parcel_model.parts_of(other)
            equal = (name, extras) == its[:2] and Range(versions) == Range(its[2]) and Marker(marker) == Marker(its[3])
            self.assertIs(Requirement(one) == Requirement(other), equal, (one, other))
            self.assertIs(Requirement(one) != Requirement(other), not equal)
        self.assertEqual(Requirement("tea; level < 3"), Requirement("tea; level <= 2"))
        self.assertNotEqual(str(Requirement("tea; level < 3")), str(Requirement("tea; level <= 2")))

    def test_equal_to_no_other_object(self):
        class Likes:
            def __eq__(self, other):
                return True

        for thing in model.OTHERS + ("tea", 0, (), Range(), Marker(), Requirement, Likes()):
            self.assertIs(Requirement("tea") == thing, False)
            self.assertIs(Requirement("tea") != thing, True)

    def test_many_made_texts(self):
        chance = random.Random(7)
        for _ in range(400):
            text = chance.choice(NAMES) + chance.choice(("", "[ice]", "[b,aa]")) + chance.choice(RANGES) + chance.choice(MARKERS)
            found = Requirement(text)
            made = Requirement.of(found.name, extras=found.extras, versions=found.versions, marker=found.marker)
            self.assertEqual(made, found)
            self.assertEqual(str(made), str(found))

    def test_class_has_its_methods_itself(self):
        for name in ("__init__", "name", "extras", "versions", "marker", "of", "__eq__", "__str__"):
            self.assertIn(name, vars(Requirement))
        self.assertIsInstance(vars(Requirement)["of"], classmethod)
        for name in ("name", "extras", "versions", "marker"):
            self.assertIsInstance(vars(Requirement)[name], property)
        self.assertEqual(Requirement.__module__, "parcelindex.requirements")


if __name__ == "__main__":
    unittest.main()
