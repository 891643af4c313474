"""Tastes: which versions of a name are liked best, and which ones are kept."""

import itertools
import unittest

import model
from parcelindex.errors import BadName, BadVersion
from parcelindex.tastes import Keeping, Newest, Oldest
from parcelindex.versions import Version

TEXTS = ("1", "2", "1.5", "2rc1", "10", "0a0")
ONE, TWO = Version("1"), Version("2")


def ordered(texts, newest):
    return tuple(sorted([Version(text) for text in texts], key=lambda version: version.rank, reverse=newest))


class TasteTest(unittest.TestCase):
    def test_newest_and_oldest(self):
        for many in range(len(TEXTS) + 1):
            for row in itertools.permutations(TEXTS, many):
                versions = tuple(Version(text) for text in row)
                self.assertEqual(Newest()("tea", versions), ordered(row, True))
                self.assertEqual(Oldest()("tea", versions), ordered(row, False))
        self.assertEqual([str(one) for one in Newest()(name="tea", versions=(ONE, Version("2rc1"), TWO))], ["2", "2rc1", "1"])
        self.assertEqual([str(one) for one in Oldest()(versions=(TWO, ONE, Version("2rc1")), name="tea")], ["1", "2rc1", "2"])
        for taste in (Newest(), Oldest()):
            self.assertIs(type(taste("tea", (ONE,))), tuple)
            for thing in model.OTHERS + ("tea", 0, ["tea"]):
                self.assertIsNone(taste.standing_of(thing))
                self.assertIsNone(taste.standing_of(name=thing))

    def test_keeping(self):
        taste = Keeping((("tea", Version("1.5")), ("cup", ONE), ("milk", Version("3"))), ("cup",))
        for many in range(len(TEXTS) + 1):
            for row in itertools.permutations(TEXTS, many):
                versions = tuple(Version(text) for text in row)
                kept = ("1.5",) if "1.5" in row else ()
                wanted = tuple(Version(text) for text in kept) + ordered([text for text in row if text != "1.5"], True)
                self.assertEqual(taste("tea", versions), wanted)
                for name in ("cup", "milk", "other"):
                    self.assertEqual(taste(name, versions), ordered(row, True))
        self.assertIs(type(taste("tea", (TWO, Version("1.5")))), tuple)
        self.assertEqual(taste(name="tea", versions=(TWO, Version("1.5.0")))[0], Version("1.5"))

    def test_standing_of(self):
        standing = (("tea", ONE), ("cup", TWO), ("milk", ONE))
        for fresh, kept in (((), ("tea", "cup", "milk")), (("cup",), ("tea", "milk")), (("cup", "cup", "other"), ("tea", "milk")),
                            (("tea", "cup", "milk"), ()), (None, ())):
            taste = Keeping(standing, fresh)
            for name, version in standing:
                self.assertEqual(taste.standing_of(name), version if name in kept else None)
                if name not in kept:
                    self.assertIsNone(taste.standing_of(name))
            for thing in model.OTHERS + ("other", "", 0, ("tea",), ["tea"], {"tea": 1}):
                self.assertIsNone(taste.standing_of(thing))
            self.assertEqual(Keeping(fresh=fresh, standing=standing).standing_of(name="tea"), ONE if "tea" in kept else None)
        self.assertEqual(Keeping(standing).standing_of("tea"), ONE)
        self.assertIsNone(Keeping(()).standing_of("tea"))

    def test_none_is_fresh_for_all(self):
        taste = Keeping((("tea", ONE),), None)
        self.assertEqual(taste("tea", (ONE, TWO)), (TWO, ONE))

    def test_errors_in_their_order(self):
        for thing in model.OTHERS + (0, "tea", ("tea",), (("tea",),), (("tea", "1"),), (("tea", ONE, ONE),), [("tea", ONE)], (["tea", ONE],),
                                     (("Tea", ONE),), ((None, ONE),), ((["tea"], ONE),), (("tea", ONE), ("tea", TWO)), (("tea", ONE), None),
                                     (("tea", ONE), ("tea", ONE)), ({"tea": ONE},), (("tea", None),), ("ab",), {"tea": ONE}, ONE):
            for fresh in ((), None, 0, ("Tea",)):
                with self.assertRaises(BadVersion) as held:
                    Keeping(thing, fresh)
                self.assertIs(held.exception.given, thing)
        for thing in model.OTHERS[1:] + (0, "tea", ["tea"], ("Tea",), ("tea", None), ("tea", ""), (("tea",),), (["tea"],), {"tea": 1}, (1,)):
            with self.assertRaises(BadName) as held:
                Keeping((("tea", ONE),), thing)
            self.assertIs(held.exception.given, thing)
            with self.assertRaises(BadName) as held:
                Keeping(standing=(), fresh=thing)
            self.assertIs(held.exception.given, thing)

    def test_classes_have_their_methods_themselves(self):
        for kind in (Newest, Oldest, Keeping):
            self.assertEqual(kind.__module__, "parcelindex.tastes")
            for name in ("__call__", "standing_of"):
                self.assertIn(name, vars(kind))


if __name__ == "__main__":
    unittest.main()
