"""Versions: texts, numbers, stages, ranks and their order."""

import itertools
import unittest

import model
from parcelindex.errors import BadCount, BadVersion
from parcelindex.versions import Version

GOOD = ("0", "1", "2", "9", "10", "99", "100", "999", "0.0", "0.0.0.0", "1.0", "1.2", "1.2.0", "1.2.0.0", "1.0.0.1",
        "1.4.0.7", "0.1", "0.0.0.1", "1.10.100.999", "999.999.999.999", "10.0.10", "20.30", "100.200.300.400",
        "0a0", "0b0", "0rc0", "0.0.0.0a0", "0.0.0.0rc999", "1a0", "1b1", "1rc2", "1.2rc3", "1.2.0rc3", "1.2.0.0b10",
        "2rc9", "2rc999", "2.0.0.1a0", "1.4.0.7a100", "999.999.999.999a999", "999.999.999.999rc999", "0.0a1", "0.5b7")
WRONG = ("", " ", ".", "1.", ".1", "1..2", "01", "00", "1.02", "1.2.00", "1000", "1.1000", "1.2.3.4.5", "0.0.0.0.0",
         "a", "b", "rc", "a1", "rc1", ".a1", "1a", "1b", "1rc", "1.a1", "1.2.rc3", "1a01", "1rc00", "1a1000", "1r1",
         "1c1", "1cr1", "1a1b1", "1a1a1", "1rc1rc1", "1a1.1", "1A1", "1RC1", "1rC1", "v1", "1d1", "1alpha1", "1a-1",
         "-1", "+1", "1.-2", "1.+2", "1_0", "1e1", "0x1", " 1", "1 ", "1\n", "\n1", "1 .2", "1. 2", "1 a1", "1a 1",
         "1.2 rc3", "1,2", "1;2", "1-2", "1/2", "\u0661", "1.\u0662", "1a\u0663", "\uff11", "\u00b2", "1\u0430" + "1",
         "1\0", "==1", "*", "none", "1\u200b", "\ud800")
MANY = "1" + "0" * 5000


class ReadingTest(unittest.TestCase):
    def check(self, text):
        if not model.is_version_text(text):
            with self.assertRaises(BadVersion) as held:
                Version(text)
            self.assertIs(held.exception.given, text)
            return
        version = Version(text)
        numbers, stage, _ = model.key_of(text)
        self.assertEqual((version.numbers, version.rank), (numbers, model.rank_of(text)), text)
        self.assertIs(version.is_early, stage != 3)
        self.assertEqual(str(version), model.text_of(model.rank_of(text)))

    def test_good_texts(self):
        for text in GOOD:
            self.assertTrue(model.is_version_text(text))
            self.check(text)
            self.assertEqual(Version(text=text), Version(text))

    def test_wrong_texts(self):
        for text in WRONG:
            self.assertFalse(model.is_version_text(text), text)
            self.check(text)

    def test_texts_with_one_change(self):
        for text in GOOD:
            for other in model.neighbors(text, "0129.abcr- A\n\u0661"):
                self.check(other)

    def test_every_sign_at_every_place(self):
        for text in ("0", "1.20", "1.4.0.7rc3"):
            for other in model.neighbors(text, [chr(code) for code in range(300)]):
                self.check(other)

    def test_all_short_texts(self):
        for many in range(6):
            for row in itertools.product("01.arc", repeat=many):
                self.check("".join(row))

    def test_all_single_numbers_and_stages(self):
        for number in itertools.chain(range(1002), (9999, 10000)):
            for form in ("{}", "1.{}", "1.2.3.{}", "{}.1", "{}a{}", "1b{}", "0.0rc{}", "0{}", "1.0{}", "1a0{}"):
                self.check(form.format(number, number))

    def test_written_out(self):
        self.assertEqual(Version("1.4.0.7").numbers, (1, 4, 0, 7))
        self.assertEqual(Version("1.2rc3").numbers, (1, 2, 0, 0))
        self.assertIs(type(Version("1.2").numbers), tuple)
        texts = ("0.0", "0.0.0.0b2", "1.0.0", "1.0.0.1", "10.0", "1.2.0.0rc10", "0.1.0")
        self.assertEqual([str(Version(text)) for text in texts], ["0", "0b2", "1", "1.0.0.1", "10", "1.2rc10", "0.1"])
        self.assertEqual([Version(text).is_early for text in ("1", "1a0", "1b0", "1rc0")], [False, True, True, True])

    def test_thousands_of_digits(self):
        for text in (MANY, "0" * 5000, "1." + MANY, MANY + ".1", "1a" + MANY, "1.2.3.4rc" + MANY, MANY * 10,
                     "1" + ".0" * 5000, "1" + "a0" * 5000, "." * 20000, "1." * 20000, "a" * 20000):
            self.check(text)

    def test_other_objects(self):
        for thing in model.OTHERS + (1, 0, 12, Version("1"), ("1", "2"), [], 10 ** 6000):
            with self.assertRaises(BadVersion) as held:
                Version(thing)
            self.assertIs(held.exception.given, thing)
            with self.assertRaises(BadVersion) as held:
                Version(text=thing)
            self.assertIs(held.exception.given, thing)


class OfTest(unittest.TestCase):
    def test_one_to_four_numbers(self):
        for many in range(1, 5):
            for numbers in itertools.product((0, 1, 10, 999), repeat=many):
                version = Version.of(*numbers)
                self.assertEqual(version.numbers, numbers + (0,) * (4 - many))
                self.assertEqual(version, Version(".".join(map(str, numbers))))
                self.assertIs(version.is_early, False)
                self.assertIs(type(version), Version)

    def test_wrong_numbers(self):
        rows = [(), (1, 2, 3, 4, 5), (0, 0, 0, 0, 0), (1,) * 5000, ("1",), ("1.2",), ((1, 2),), ([1],), (1, "2"),
                (1, 2, 3, 4, True)]
        for wrong in (True, False, -1, 1000, 10 ** 6000, -10 ** 6000, None, 1.0, "1", b"1", (), Version("1")):
            rows += [(wrong,), (wrong, 1), (1, wrong), (1, 2, 3, wrong), (1, wrong, 3, 4), (wrong,) * 4]
        for numbers in rows:
            with self.assertRaises(BadVersion) as held:
                Version.of(*numbers)
            self.assertIs(type(held.exception.given), tuple)
            self.assertEqual(len(held.exception.given), len(numbers))
            for given, wanted in zip(held.exception.given, numbers):
                self.assertIs(given, wanted)


class AtTest(unittest.TestCase):
    def test_last(self):
        self.assertEqual(Version.LAST, 3000999999999999)
        self.assertEqual(Version("1").LAST, 3000999999999999)
        self.assertEqual(str(Version.at(Version.LAST)), "999.999.999.999")
        self.assertEqual(str(Version.at(0)), "0a0")
        self.assertEqual(Version("999.999.999.999").rank, Version.LAST)
        self.assertEqual(Version("0.0.0.0a0").rank, 0)

    def test_at_and_rank_undo_one_another(self):
        ranks = set(range(7000)) | set(range(Version.LAST - 7000, Version.LAST + 1))
        for text in GOOD:
            rank = model.rank_of(text)
            ranks |= set(range(max(0, rank - 3), min(rank + 3, Version.LAST) + 1))
        for power in range(52):
            ranks |= {min(2 ** power, Version.LAST), Version.LAST - min(2 ** power, Version.LAST)}
        for rank in sorted(ranks):
            version = Version.at(rank)
            self.assertEqual(version.rank, rank)
            self.assertEqual(str(version), model.text_of(rank))
            self.assertEqual(Version(str(version)).rank, rank)
            self.assertEqual(version.numbers, model.key_of(model.text_of(rank))[0])
            self.assertIs(version.is_early, rank % 3001 != 3000)
        for text in GOOD:
            self.assertEqual(Version.at(rank=Version(text).rank), Version(text))

    def test_ranks_in_front_and_behind(self):
        two = Version("2").rank
        self.assertEqual(str(Version.at(two + 1)), "2.0.0.1a0")
        self.assertEqual(str(Version.at(two - 1)), "2rc999")
        self.assertEqual(two, 2 * 1000 ** 3 * 3001 + 3000)
        self.assertEqual(Version("1.2.3.4b5").rank, 1002003004 * 3001 + 1005)

    def test_wrong_ranks(self):
        for thing in model.OTHERS + (-1, Version.LAST + 1, -Version.LAST, 10 ** 6000, -10 ** 6000, 0.0, "0", Version("1")):
            with self.assertRaises(BadCount) as held:
                Version.at(thing)
            self.assertIs(held.exception.given, thing)


class OrderTest(unittest.TestCase):
    def test_all_comparisons(self):
        made = [(Version(text), model.key_of(text)) for text in GOOD]
        made += [(Version.of(1, 2), ((1, 2, 0, 0), 3, 0)), (Version.at(0), ((0, 0, 0, 0), 0, 0))]
        for one, mine in made:
            for other, its in made:
                self.assertIs(one < other, mine < its)
                self.assertIs(one <= other, mine <= its)
                self.assertIs(one > other, mine > its)
                self.assertIs(one >= other, mine >= its)
                self.assertIs(one == other, mine == its)
                self.assertIs(one != other, mine != its)
                self.assertIs(str(one) == str(other), mine == its)

    def test_a_row_in_order(self):
        texts = ("0a0", "0a1", "0a999", "0b0", "0rc0", "0rc999", "0", "0.0.0.1a0", "0.0.0.1", "0.0.1", "0.1", "0.9",
                 "0.10", "1a5", "1b0", "1rc0", "1", "1.0.0.1rc1", "1.0.1", "1.2rc3", "1.2", "2", "10a0", "10", "999")
        for at in range(len(texts) - 1):
            self.assertLess(Version(texts[at]), Version(texts[at + 1]))

    def test_two_ways_to_write_one(self):
        for one, other in (("1.2", "1.2.0"), ("1.2", "1.2.0.0"), ("0", "0.0.0.0"), ("1rc3", "1.0.0rc3"),
                           ("0a0", "0.0a0"), ("10", "10.0")):
            self.assertEqual(Version(one), Version(other))
            self.assertEqual(str(Version(one)), one)
            self.assertEqual(str(Version(other)), one)

    def test_equal_to_no_other_object(self):
        class Likes:
            def __eq__(self, other):
                return True

        for thing in model.OTHERS + ("1", 1, Version("1").rank, (1, 0, 0, 0), Version, Likes()):
            self.assertIs(Version("1") == thing, False)
            self.assertIs(Version("1") != thing, True)

    def test_class_has_its_methods_itself(self):
        for name in ("numbers", "is_early", "rank", "LAST", "of", "at", "__init__", "__str__",
                     "__lt__", "__le__", "__gt__", "__ge__", "__eq__"):
            self.assertIn(name, vars(Version))
        self.assertEqual(Version.__module__, "parcelindex.versions")
        for name in ("numbers", "is_early", "rank"):
            self.assertIsInstance(vars(Version)[name], property)

    def test_example(self):
        found = [str(Version("1.2.0")), Version("2rc9") < Version("2"), str(Version.at(Version("2").rank + 1))]
        self.assertEqual(found, ["1.2", True, "2.0.0.1a0"])


if __name__ == "__main__":
    unittest.main()
