"""Parcels: their parts and limits, their texts and sums, and the first wrong line of a text."""

import itertools
import random
import unittest

import model
import parcel_model
from parcelindex.errors import BadMarker, BadName, BadParcel, BadRequirement, BadText, BadVersion, NoName
from parcelindex.markers import Marker
from parcelindex.parcels import Parcel
from parcelindex.ranges import Range
from parcelindex.requirements import Requirement
from parcelindex.versions import Version

ONE = Version("1")
NEEDS = ("cup>=2", "milk[ice]; level < 3", "cup", "a<0a0", "t-2==1|==2", "tea; not (system == a or level > 5)", "z", "y", "x")
PARTS = (("-", "x" * 300), (".", ""), ("/", "\n"), ("a", "hot"), ("a/b", "two\nlines"), ("b", "\n\n"), ("c.txt", "~ }{"))
DIGITS = "9" * 5000


def row_of(texts):
    return tuple(Requirement(text) for text in texts)


def extras_of(pairs):
    return tuple((word, row_of(texts)) for word, texts in pairs)


def made(name="tea", version="1", label="all", marker="always", needs=(), extras=(), parts=()):
    """The parcel with these parts, which are given as texts, and the text that it must have."""
    parcel = Parcel(name, Version(version), label, marker=Marker(marker), needs=row_of(needs), extras=extras_of(extras),
                    parts=parts)
    return parcel, parcel_model.text_of_parcel(name, version, label, marker, needs, extras, parts)


SAMPLES = [made(), made("t-2", "1.4rc5", "x", "level < 3"), made(needs=NEEDS[:8]), made(parts=PARTS[:6]), made(parts=PARTS[1:]),
           made(extras=(("a", ()), ("z", NEEDS[:4]), ("aa", NEEDS[4:8]), ("zzzzzzzzzzzz", ("x",)))),
           made(needs=("cup",), extras=(("ice", ()),), parts=(("a", "need cup\nfile b 1\n"),)),
           made("a", "0a0", "abcdefghijkl", "not system == north and (machine == b or level >= 50)", NEEDS[:2], (("b", ("z",)),),
                (("a", "hot\n"), ("b", ""), ("c", "\nfor always")))]


class PartsTest(unittest.TestCase):
    def check(self, **parts):
        parcel, text = made(**parts)
        self.assertEqual(parcel.text, text)
        self.assertEqual(parcel.digest, parcel_model.sum_of(text))
        self.assertIs(type(parcel.digest), int)
        again = Parcel.read(text)
        self.assertEqual(again, parcel)
        self.assertEqual((again.text, again.digest), (text, parcel.digest))
        return parcel

    def test_properties(self):
        marker, needs, extras, parts = Marker("level < 3"), row_of(NEEDS[:2]), extras_of((("ice", ("cup",)), ("milk", ()))), PARTS[3:5]
        parcel = Parcel("tea", Version("1.0"), "big", marker=marker, needs=needs, extras=extras, parts=parts)
        self.assertEqual((parcel.name, parcel.version, parcel.label), ("tea", ONE, "big"))
        self.assertEqual((parcel.marker, parcel.needs, parcel.extras, parcel.parts), (marker, needs, extras, parts))
        self.assertEqual(parcel.text, "parcel tea 1 big\nfor level < 3\nneed cup>=2\nneed milk[ice]; level < 3\nextra ice\nwith cup\n"
                                      "extra milk\nfile a 3\nhot\nfile a/b 9\ntwo\nlines\n")
        self.assertEqual(Parcel(name="tea", version=ONE, label="big").text, Parcel("tea", ONE, "big").text)

    def test_defaults(self):
        parcel = Parcel("tea", Version("2"))
        self.assertEqual((parcel.label, parcel.needs, parcel.extras, parcel.parts), ("all", (), (), ()))
        self.assertEqual((type(parcel.marker), str(parcel.marker)), (Marker, "always"))
        self.assertEqual(parcel.text, "parcel tea 2 all\nfor always\n")
        self.assertEqual(Parcel("tea", Version("2"), marker=None).text, parcel.text)

    def test_sum_written_out(self):
        number = 7
        for code in Parcel("tea", ONE).text.encode():
            number = (number * 1000003 + code) % (2 ** 61 - 1)
        self.assertEqual(Parcel("tea", ONE).digest, number)

    def test_each_limit(self):
        for many in range(9):
            self.check(needs=NEEDS[:many])
            self.check(needs=("cup",) * many)
        for many in range(5):
            self.check(extras=tuple((word, ()) for word in ("b", "z", "aa", "ab")[:many]))
            self.check(extras=(("b", NEEDS[:many]), ("aa", NEEDS[many:2 * many])))
        for many in range(7):
            self.check(parts=PARTS[:many])
            self.check(parts=PARTS[7 - many:])
        for many in (0, 1, 9, 10, 99, 100, 299, 300):
            self.check(parts=(("a", "x" * many), ("b", "\n" * many)))

    def test_every_sign_of_texts(self):
        signs = "".join(sorted(parcel_model.GOOD_SIGNS))
        self.assertEqual(len(signs), 95)
        self.check(parts=(("a", signs), ("b", signs[::-1])))

    def test_names_labels_and_markers(self):
        for name, label, marker, version in itertools.product(("a", "t-2", "abcdefghijklmnopqrst"), ("a", "not", "abcdefghijkl"),
                                                              ("always", "never", "not not always"), ("0", "1.2rc3", "1.0.0.1")):
            self.check(name=name, label=label, marker=marker, version=version)

    def test_samples(self):
        for parcel, text in SAMPLES:
            self.assertEqual(parcel.text, text)
            self.assertEqual(Parcel.read(text=text), parcel)

    def test_offers(self):
        class Likes:
            def __eq__(self, other):
                return True

        parcel = made(extras=(("b", NEEDS[:2]), ("z", ()), ("aa", NEEDS[:1])))[0]
        self.assertEqual(parcel.offers("b"), row_of(NEEDS[:2]))
        self.assertEqual(parcel.offers("z"), ())
        self.assertEqual(parcel.offers(word="aa"), row_of(NEEDS[:1]))
        for thing in model.OTHERS + (0, "", "a", "ab", "B", "milk", ["b"], ("b",), "cup", Likes()):
            with self.assertRaises(NoName) as held:
                parcel.offers(thing)
            self.assertIs(held.exception.given, thing)
        with self.assertRaises(NoName):
            Parcel("tea", ONE).offers("b")

    def test_equality_by_texts(self):
        texts = [text for _, text in SAMPLES]
        for (one, text), (other, its) in itertools.product(SAMPLES, repeat=2):
            self.assertIs(one == other, text == its)
            self.assertIs(one != other, text != its)
        self.assertEqual(len(set(texts)), len(texts))
        self.assertEqual(Parcel("tea", Version("1.0")), Parcel("tea", ONE, "all", marker=Marker("(always)")))
        self.assertEqual(made(needs=("cup*",))[0], made(needs=("cup",))[0])
        self.assertNotEqual(Parcel("tea", ONE), Parcel("tea", ONE, marker=Marker("not never")))
        self.assertNotEqual(made(needs=("cup", "milk"))[0], made(needs=("milk", "cup"))[0])

        class Likes:
            def __eq__(self, other):
                return True

        for thing in model.OTHERS + (0, texts[0], ONE, Parcel, Likes()):
            self.assertIs(SAMPLES[0][0] == thing, False)
            self.assertIs(SAMPLES[0][0] != thing, True)

    def test_class_has_its_methods_itself(self):
        for name in ("__init__", "name", "version", "label", "marker", "needs", "extras", "parts", "text", "digest", "offers",
                     "read", "__eq__"):
            self.assertIn(name, vars(Parcel))
        self.assertIsInstance(vars(Parcel)["read"], staticmethod)
        for name in ("name", "version", "label", "marker", "needs", "extras", "parts", "text", "digest"):
            self.assertIsInstance(vars(Parcel)[name], property)
        self.assertEqual(Parcel.__module__, "parcelindex.parcels")


class ErrorsTest(unittest.TestCase):
    def refused(self, kind, given, *row, **parts):
        with self.assertRaises(kind) as held:
            Parcel(*row, **parts)
        self.assertIs(held.exception.given, given)
        self.assertIs(type(held.exception), kind)

    def test_names(self):
        for thing in model.OTHERS + (0, "", "Tea", "2tea", "abcdefghijklmnopqrstu", "tea ", ("tea",)):
            self.refused(BadName, thing, thing, ONE)
            self.refused(BadName, thing, name=thing, version=ONE)
            self.refused(BadName, thing, thing, "1", "All", marker=0, needs=0, extras=0, parts=0)

    def test_versions(self):
        for thing in model.OTHERS + ("1", 1, Range("==1"), Version, (1, 0, 0, 0), ONE.rank):
            self.refused(BadVersion, thing, "tea", thing)
            self.refused(BadVersion, thing, "tea", thing, "All", marker=0, needs=0, extras=0, parts=0)

    def test_labels(self):
        for thing in model.OTHERS + (0, "", "All", "a1", "abcdefghijklm", "a-b", ("all",)):
            self.refused(BadName, thing, "tea", ONE, thing)
            self.refused(BadName, thing, "tea", ONE, label=thing, marker=0, needs=0, extras=0, parts=0)

    def test_markers(self):
        for thing in model.OTHERS[1:] + (0, "always", Requirement("tea"), Marker):
            self.refused(BadMarker, thing, "tea", ONE, marker=thing)
            self.refused(BadMarker, thing, "tea", ONE, "all", parts=0, extras=0, needs=0, marker=thing)

    def test_needs(self):
        cup = Requirement("cup")
        for thing in model.OTHERS + (0, "cup", cup, [cup], ("cup",), (cup, None), (cup, "cup"), ((cup,),), (cup,) * 9, (cup,) * 100):
            self.refused(BadRequirement, thing, "tea", ONE, needs=thing)
            self.refused(BadRequirement, thing, "tea", ONE, parts=0, extras=0, needs=thing)

    def test_extras(self):
        cup = Requirement("cup")
        five = tuple((word, ()) for word in "abcde")
        for thing in model.OTHERS + (0, "ice", ("ice",), (("ice",),), (("ice", (), ()),), [("ice", ())], (["ice", ()],), ("ab",),
                                     (("ice", []),), (("ice", None),), (("ice", cup),), (("ice", ("cup",)),), (("ice", (cup, 1)),),
                                     (("Ice", ()),), (("", ()),), ((None, ()),), ((["ice"], ()),), (("abcdefghijklm", ()),),
                                     (("b", ()), ("a", ())), (("aa", ()), ("b", ())), (("a", ()), ("a", ())), (("a", ()), None),
                                     (("ice", (cup,) * 5),), five, (("a", ()), ("b", ("cup",)))):
            self.refused(BadRequirement, thing, "tea", ONE, extras=thing)
            self.refused(BadRequirement, thing, "tea", ONE, parts=0, extras=thing, needs=())

    def test_parts(self):
        seven = tuple((path, "") for path in "abcdefg")
        for thing in model.OTHERS + (0, "cup", ("cup",), (("cup",),), (("cup", "", ""),), [("cup", "")], (["cup", ""],), ("ab",), seven,
                                     (("cup", None),), (("cup", 1),), (("cup", ["hot"]),), (("cup", b"hot"),), (("", ""),), ((None, ""),),
                                     ((["cup"], ""),), (("Cup", ""),), (("c p", ""),), (("a" * 61, ""),), (("cup", "x" * 301),),
                                     (("b", ""), ("a", "")), (("a", ""), ("a", "")), (("a", ""), ("-", "")), (("a", ""), None),
                                     (("cup", chr(37)),), (("cup", "a" + chr(37)),), (("cup", "\t"),), (("cup", "\r\n"),),
                                     (("cup", "\0"),), (("cup", chr(31)),), (("cup", chr(127)),), (("cup", "\u00e9"),),
                                     (("cup", "\u2028"),), (("cup", "\ud800"),), (("a", ""), ("b", "\x85"))):
            self.refused(BadText, thing, "tea", ONE, parts=thing)
            self.refused(BadText, thing, "tea", ONE, "all", marker=None, needs=(), extras=(), parts=thing)
        self.assertEqual(Parcel("tea", ONE, parts=(("a" * 60, "x" * 300),)).parts, (("a" * 60, "x" * 300),))

    def test_by_name_only(self):
        for row in (("tea", ONE, "all", None), ("tea", ONE, "all", None, (), (), ())):
            with self.assertRaises(TypeError):
                Parcel(*row)


class ReadingTest(unittest.TestCase):
    def check(self, text):
        wanted = parcel_model.first_wrong_line(text)
        if wanted is None:
            self.assertEqual(Parcel.read(text).text, text)
            return
        with self.assertRaises(BadParcel) as held:
            Parcel.read(text)
        self.assertEqual(held.exception.line, wanted, text)
        self.assertIs(type(held.exception.line), int)

    def test_lines_written_out(self):
        head = "parcel tea 1 all\nfor always\n"
        for text, line in (("", 1), ("\n", 1), ("parcel", 1), ("parcel tea 1", 1), ("parcel tea 1 all", 2), ("parcel tea 1 all\n", 2),
                           ("parcel tea 1.0 all\n", 1), ("parcel tea 01 all", 1), ("parcel Tea 1 all\n", 1), ("parcel tea 1 All\n", 1),
                           ("parcel tea 1  all\n", 1), ("parcel tea 1 all \n", 1), ("parcel tea 1 all x\n", 1), (" parcel tea 1 all\n", 1),
                           (f"parcel tea {DIGITS} all\n", 1), ("parcel tea 1 all\r\nfor always\n", 1), ("Parcel tea 1 all\n", 1),
                           ("parcel tea 1 all\nfor", 2), ("parcel tea 1 all\nfor \n", 2), ("parcel tea 1 all\nfor always", 3),
                           ("parcel tea 1 all\nfor (always)\n", 2), ("parcel tea 1 all\n\nfor always\n", 2), ("parcel tea 1 all\nneed cup\n", 2),
                           (f"parcel tea 1 all\nfor level < {DIGITS}\n", 2), (head + "\n", 3), (head + "x", 3), (head + "need", 3),
                           (head + "need cup", 4), (head + "need cup*\n", 3), (head + "need cup; always\n", 3), (head + "need  cup\n", 3),
                           (head + "need cup==1.0\n", 3), (head + f"need cup=={DIGITS}\n", 3), (head + "need cup\n" * 9, 11),
                           (head + "with cup\n", 3), (head + "extra ice", 4), (head + "extra ice\nwith cup", 5), (head + "extra Ice\n", 3),
                           (head + "extra\n", 3), (head + "extra \n", 3), (head + "extra ice\nextra ice\n", 4),
                           (head + "extra aa\nextra b\n", 4), (head + "extra ice\nneed cup\n", 4), (head + "extra ice milk\n", 3),
                           (head + "extra ice\n" + "with cup\n" * 5, 8), (head + "extra a\nextra b\nextra c\nextra d\nextra e\n", 7),
                           (head + "file a 3\nhot\nextra ice\n", 5), (head + "file a 3\nhot\nwith cup\n", 5), (head + "file a 3\nhot\nneed x\n", 5)):
            self.assertEqual(parcel_model.first_wrong_line(text), line, text)
            self.check(text)

    def test_lines_of_parts_written_out(self):
        head = "parcel tea 1 all\nfor always\n"
        for text, line in (("file a 3\nhot", 3), ("file a 3\nh\nt", 3), ("file a 1\nx\nfile b 2\nyz", 5), ("file a 3\nhot\n", None), ("file a 3\nhott\n", 3), ("file a 3\nho\n", 3), ("file a 4\nhot\n", 3),
                           ("file a 4\nhot\n\n", None), ("file a 2\nhot\n", 3), ("file a 3\nho", 3), ("file a 3\n", 3), ("file a 3", 3),
                           ("file a 0\n", 3), ("file a 0\n\n", None), ("file a 0\nfile b 0\n\n", 3), ("file a 0\n\nfile b 0\n\n", None),
                           ("file a 03\nhot\n", 3), ("file a 3 \nhot\n", 3), ("file a  3\nhot\n", 3), ("file a\nhot\n", 3), ("file a \nhot\n", 3),
                           ("file 3\nhot\n", 3), ("file A 3\nhot\n", 3), ("file a x\nhot\n", 3), ("file a +3\nhot\n", 3), ("file a -3\nhot\n", 3),
                           (f"file a {DIGITS}\nhot\n", 3), ("file a 301\n" + "x" * 301 + "\n", 3), ("file a 300\n" + "x" * 300 + "\n", None),
                           ("file a 9\ntwo\nlines\n", None), ("file a 8\ntwo\nlines\n", 3), ("file a 3\ntwo\nlines\n", 5),
                           ("file a 7\none\n\two\n", 5), ("file a 7\nb\td\nxyz\n", 4), ("file a 7\nabc\nx" + chr(37) + "z\n", 5),
                           ("file a 8\nb\td\nxyz\n", 3), ("file a 7\nabc\nxyz\nx", 6), ("file a 3\nhot\nfile a 3\nhot\n", 5),
                           ("file b 3\nhot\nfile a 3\nhot\n", 5), ("file a 3\n\u00e9ab\n", 4), ("file a 3\nh\u2028t\n", 4), ("file a 3\nh\rt\n", 4),
                           ("file a 3\nhot\nfile b 1\nx\nfile c 2\nxy\n", None), ("file a 3\nhot\nfile b 1\nx\nfile c 2\nx\n", 7),
                           ("".join(f"file {path} 0\n\n" for path in "abcdefg"), 15), ("file a 1\n\n\n", None), ("file a 1\n\n", 3)):
            self.assertEqual(parcel_model.first_wrong_line(head + text), line, text)
            self.check(head + text)

    def test_one_change_in_signs(self):
        for _, text in SAMPLES[1:2] + SAMPLES[6:]:
            for other in model.neighbors(text, "a1 \n" + chr(37)):
                self.check(other)

    def test_cut_off_everywhere(self):
        for _, text in SAMPLES:
            for at in range(len(text) + 1):
                self.check(text[:at])
                self.check(text[at:])

    def test_lines_put_in_left_out_exchanged_and_doubled(self):
        lines = ("need cup", "extra ice", "extra zz", "with cup", "file b 1", "file zz 3", "hot", "", "x", "for always", "parcel tea 1 all",
                 "need cup; always", "file a 0" + DIGITS, "file zz " + DIGITS, "with a==" + DIGITS, "for level == " + DIGITS, "\t", "need \u00e9")
        for _, text in SAMPLES:
            row = text.split("\n")[:-1]
            for at in range(len(row) + 1):
                for line in lines:
                    self.check("\n".join(row[:at] + [line] + row[at:]) + "\n")
                    self.check("\n".join(row[:at] + [line] + row[at + 1:]) + "\n")
                self.check("\n".join(row[:at] + row[at + 1:]) + "\n")
                self.check("\n".join(row[:at] + row[at:at + 1] * 2 + row[at + 1:]) + "\n")
                self.check("\n".join(row[:at]) + "\n")
                self.check("\n".join(row[:at]))
                for other in range(at + 1, len(row)):
                    swapped = list(row)
                    swapped[at], swapped[other] = swapped[other], swapped[at]
                    self.check("\n".join(swapped) + "\n")

    def test_other_lengths(self):
        for _, text in SAMPLES[3:5] + SAMPLES[6:]:
            row = text.split("\n")
            for at, line in enumerate(row):
                if line.startswith("file "):
                    for length in list(range(20)) + [299, 300, 301, 999, 1000]:
                        front = line.rsplit(" ", 1)[0]
                        self.check("\n".join(row[:at] + [f"{front} {length}"] + row[at + 1:]))

    def test_two_changes(self):
        chance = random.Random(8)
        for _ in range(3000):
            text = chance.choice(SAMPLES)[1]
            for _ in range(2):
                at = chance.randrange(len(text) + 1)
                text = text[:at] + chance.choice(("", "\n", "a", "0", " ", "need cup\n", "file z 0\n\n", chr(37))) + text[at + chance.randint(0, 3):]
            self.check(text)

    def test_many_lines(self):
        for text in ("\n" * 20000, "need cup\n" * 2000, "parcel tea 1 all\nfor always\n" + "need cup\n" * 2000, "x" * 20000,
                     "parcel tea 1 all\nfor always\nfile a 300\n" + "\n" * 20000):
            self.check(text)

    def test_other_objects(self):
        for thing in model.OTHERS + (0, SAMPLES[0][0], [SAMPLES[0][1]], SAMPLES[0][1].encode()):
            with self.assertRaises(BadText) as held:
                Parcel.read(thing)
            self.assertIs(held.exception.given, thing)


if __name__ == "__main__":
    unittest.main()
