"""Installers, written out: acts, kept numbers and marks, what is told, and the errors of every call in their order."""

import unittest

import disk_model
import model
import worlds
from choice_model import HERE, Likes, row_of
from parcelindex.audits import faults, is_sound
from parcelindex.bases import Base
from parcelindex.choosing import choose
from parcelindex.disks import Disk
from parcelindex.environments import Environment
from parcelindex.errors import (
    BadBase, BadEnvironment, BadName, BadRequirement, BadStep, BadText, BadWay, Damaged, Foreign, NoChoice, NoMark, NoName, NoParcel, NoPast, NoRepair,
    NoRequest, NoRoom, NoSection, NotClosed, PathClash, Pending, PowerCut, Taken, WrongSum)
from parcelindex.installers import Installer
from parcelindex.locks import Lock, lock_everywhere, lock_of
from parcelindex.markers import Marker
from parcelindex.parcels import Parcel
from parcelindex.requirements import Requirement
from parcelindex.sources import Index
from parcelindex.versions import Version

ONE, TWO, THREE = Version("1"), Version("2"), Version("3")
PLACE = HERE[0]
TEA = Requirement("tea")
OTHERS = model.OTHERS + (0, Likes())


class Tests(unittest.TestCase):
    def setUp(self):
        self.index, self.disk = Index(), worlds.logged({})
        self.installer = Installer(self.disk, self.index, PLACE)

    def put(self, name, version, *needs, parts=(), label="all", marker="always", extras=()):
        parcel = Parcel(name, Version(version), label, marker=Marker(marker), needs=row_of(*needs), parts=parts,
                        extras=tuple((word, row_of(*row)) for word, row in extras))
        self.index.add(parcel)
        return parcel

    def refused(self, kind, given, call):
        """A call raises just this error, and changes nothing."""
        before = disk_model.texts_of(self.disk), self.disk.acts
        with self.assertRaises(kind) as held:
            call()
        self.assertIs(type(held.exception), kind)
        (field,) = vars(held.exception).values()
        if kind is NoChoice:
            self.assertEqual(field.places, given)
        else:
            self.assertEqual(field, given)
            self.assertIs(type(field), type(given))
        self.assertEqual((disk_model.texts_of(self.disk), self.disk.acts), before)

    def told(self, rows):
        return [" ".join("-" if part is None else str(part) for part in row) for row in rows]

    def acts(self, call):
        """The acts of a call."""
        self.disk.log = []
        call()
        return self.disk.log


class ActsTest(Tests):
    def test_the_acts_of_changes_one_by_one(self):
        cup = self.put("cup", "1", parts=(("a", "x"), ("c", "")))
        tea = self.put("tea", "1", "cup", parts=(("a", "x"), ("b/1", "one\n")))
        new = self.put("tea", "2", parts=(("b/1", "two"), ("d", "dd")))
        first = sorted((cup, tea), key=lambda one: one.digest)
        zero, one = "base 0\n", f"base 1\nenvironment a a 0\nrequest tea<2\nrow cup 1 - all {cup.digest}\nrow tea 1 - all {tea.digest}\n"
        self.assertEqual(self.acts(lambda: self.assertEqual(self.told(self.installer.install(Requirement("tea<2"))), ["added cup - 1", "added tea - 1"])),
                         [(f"store/{parcel.digest}", parcel.text) for parcel in first] + [("journal", zero + "then\n" + one), ("past/0", zero),
                          ("site/a", "x"), ("site/b/1", "one\n"), ("site/c", ""), ("base", one), ("journal", None)])
        two = f"base 2\nenvironment a a 0\nrequest tea\nrow cup 1 - all {cup.digest}\nrow tea 1 - all {tea.digest}\n"
        self.assertEqual(self.acts(lambda: self.assertEqual(self.installer.install(TEA), ())),
                         [("journal", one + "then\n" + two), ("past/1", one), ("base", two), ("journal", None)])
        self.assertEqual(self.acts(lambda: self.assertEqual(self.installer.install(TEA), ())), [])
        three = f"base 3\nenvironment a a 0\nrequest tea\nrow tea 2 - all {new.digest}\n"
        self.assertEqual(self.acts(lambda: self.assertEqual(self.told(self.installer.upgrade("tea")), ["removed cup 1 -", "changed tea 1 2"])),
                         [(f"store/{new.digest}", new.text), ("journal", two + "then\n" + three), ("past/2", two), ("site/a", None), ("site/b/1", "two"),
                          ("site/c", None), ("site/d", "dd"), ("base", three), ("journal", None)])
        four = "base 4\nenvironment a a 0\n"
        self.assertEqual(self.acts(lambda: self.installer.remove("tea")), [("journal", three + "then\n" + four), ("past/3", three), ("site/b/1", None),
                                                                            ("site/d", None), ("base", four), ("journal", None)])
        self.assertEqual(self.installer.kept_numbers(), (0, 1, 2, 3))

    def test_acts_of_recoveries_one_by_one(self):
        tea = self.put("tea", "1", parts=(("a", "x"), ("b", "y")))
        one = f"base 1\nenvironment a a 0\nrequest tea\nrow tea 1 - all {tea.digest}\n"
        for number, finish, undo in ((0, [], []), (1, [(f"store/{tea.digest}", None)], [(f"store/{tea.digest}", None)]),
                                     (2, [("past/0", "base 0\n"), ("site/a", "x"), ("site/b", "y"), ("base", one), ("journal", None)],
                                      [("journal", None), (f"store/{tea.digest}", None)]),
                                     (4, [("site/b", "y"), ("base", one), ("journal", None)],
                                      [("site/a", None), ("journal", None), ("past/0", None), (f"store/{tea.digest}", None)]),
                                     (6, [("journal", None)], [("site/a", None), ("site/b", None), ("base", None), ("journal", None), ("past/0", None),
                                                               (f"store/{tea.digest}", None)])):
            for way, acts in (("finish", finish), ("undo", undo)):
                disk = worlds.logged({})
                disk.cut_after(number)
                with self.assertRaises(PowerCut):
                    Installer(disk, self.index, PLACE).install(TEA)
                disk.power_on()
                disk.log = []
                self.assertEqual(Installer(disk, self.index, PLACE).recover(way), 1 if number > 1 and way == "finish" else 0)
                self.assertEqual(disk.log, acts)

    def test_what_changes_nothing(self):
        self.put("tea", "1")
        for call in (lambda: self.installer.install(), lambda: self.installer.remove(), lambda: self.installer.upgrade(),
                     lambda: self.installer.change_all(()), lambda: self.installer.change_all((("install",), ("remove",), ("upgrade",)))):
            self.assertEqual(self.acts(lambda: self.assertEqual(call(), ())), [])
        self.installer.install(TEA)
        self.assertEqual(self.acts(lambda: self.assertEqual(self.installer.change_all((("remove", "tea"), ("install", TEA))), ())), [])
        # The same rows for another environment are a change, unless there are no rows.
        other = Installer(self.disk, self.index, Environment(level=7))
        self.assertEqual(other.upgrade(), ())
        self.assertEqual(str(self.installer.base_now().environment), "a a 7")
        self.assertEqual(self.installer.base_now().number, 2)
        self.installer.remove("tea")
        self.assertEqual(str(self.installer.base_now().environment), "a a 0")
        self.assertEqual(self.acts(lambda: self.assertEqual(other.upgrade(), ())), [])
        # Another text of an equal request is a change.
        self.installer.install(Requirement("tea; level < 5"))
        self.installer.install(Requirement("tea; not level >= 5"))
        self.assertEqual([str(one) for one in self.installer.base_now().requests], ["tea; not level >= 5"])

    def test_texts_that_nobody_owns_stay(self):
        self.put("tea", "1", parts=(("a", "x"),))
        for path in ("site/z", "site/a/b", "other", "store", "past", "site", "base/1", "journal/2", "marks-"):
            self.disk.write(path, "mine")
        self.installer.install(TEA)
        self.installer.remove("tea")
        self.assertEqual([path for path in self.disk.paths() if self.disk.text_at(path) == "mine"],
                         ["base/1", "journal/2", "marks-", "other", "past", "site", "site/a/b", "site/z", "store"])
        self.assertIs(is_sound(self.disk), True)

    def test_order_of_requests(self):
        for name in ("tea", "cup", "mug"):
            self.put(name, "1")
        self.installer.install(*row_of("tea", "cup"))
        self.installer.install(*row_of("mug", "tea<5", "mug<7", "cup>=1"))
        self.assertEqual([str(one) for one in self.installer.base_now().requests], ["tea<5", "cup>=1", "mug<7"])
        self.installer.remove("cup", "tea")
        self.assertEqual([str(one) for one in self.installer.base_now().requests], ["mug<7"])
        self.installer.change_all((("install",) + row_of("cup"), ("remove", "mug"), ("install",) + row_of("mug")))
        self.assertEqual([str(one) for one in self.installer.base_now().requests], ["cup", "mug"])

    def test_what_stands_is_kept(self):
        self.put("cup", "1")
        self.put("tea", "1", "cup")
        self.installer.install(TEA)
        self.put("tea", "2", "cup")
        self.put("cup", "2")
        self.index.withdraw("cup", ONE)
        self.assertEqual(self.installer.upgrade("cup"), (("changed", "cup", ONE, TWO),))
        self.installer.rollback(1)
        self.put("mug", "1")
        self.assertEqual(self.installer.install(Requirement("mug")), (("added", "mug", None, ONE),))
        self.assertEqual(self.told(self.installer.would((("upgrade", "tea"), ("upgrade", "cup")))), ["changed cup 1 2", "changed tea 1 2"])
        self.assertEqual(self.told(self.installer.would((("upgrade", "tea"), ("upgrade",), ("upgrade", "tea")))), ["changed cup 1 2", "changed tea 1 2"])
        self.assertEqual(self.told(self.installer.upgrade()), ["changed cup 1 2", "changed tea 1 2"])
        # Another source that has nothing: all stays that stands.
        other = Installer(self.disk, Index(), PLACE)
        self.assertEqual(other.upgrade(), ())
        self.assertEqual(self.told(other.remove("mug")), ["removed mug 1 -"])
        with self.assertRaises(NoChoice):
            other.install(Requirement("mug"))

    def test_only_requests_pin(self):
        self.put("tea", "1", "cup==2rc1")
        self.put("cup", "2rc1")
        self.refused(NoChoice, (0,), lambda: self.installer.install(TEA))
        self.assertEqual(self.told(self.installer.install(TEA, Requirement("cup==2rc1"))), ["added cup - 2rc1", "added tea - 1"])
        # What stands is kept, though no request pins it any more.
        self.assertEqual(self.installer.remove("cup"), ())

    def test_paths_that_two_parcels_own(self):
        self.put("tea", "1", parts=(("a", "x"), ("b", "y"), ("c", "z")))
        self.put("cup", "1", parts=(("a", "x"), ("b", "z"), ("c", "")))
        self.put("cup", "0.5", parts=(("a", "x"),))
        # No other choice is looked for, though the older cup would do.
        self.refused(PathClash, "b", lambda: self.installer.install(*row_of("tea", "cup")))
        self.installer.install(*row_of("tea", "cup<1"))
        self.assertEqual(self.disk.text_at("site/a"), "x")
        self.installer.remove("tea")
        self.assertEqual([path for path in self.disk.paths("site/")], ["site/a"])

    def test_example(self):
        index, disk = Index(), Disk()
        index.add(Parcel("tea", Version("1"), parts=(("cup", "hot"),)))
        installer = Installer(disk, index, Environment())
        self.assertEqual((installer.install(Requirement("tea")) == (("added", "tea", None, Version("1")),), disk.acts, disk.text_at("site/cup")),
                         (True, 6, "hot"))
        disk.cut_after(3)
        with self.assertRaises(PowerCut) as held:
            installer.remove("tea")
        self.assertEqual(held.exception.done, 9)


class KeptTest(Tests):
    def many(self, count):
        """Makes so many changes, each with another version."""
        for number in range(count):
            self.put("tea", f"{number + 1}", parts=(("a", "x" * number),))
            self.installer.install(Requirement(f"tea=={number + 1}"))

    def test_six_older_bases_and_the_marked_ones(self):
        self.many(3)
        self.installer.mark("a")
        self.installer.mark(word="zz")
        self.assertEqual(self.disk.text_at("marks"), "mark a 3\nmark zz 3\n")
        self.many_from(4, 9)
        self.assertEqual(self.installer.base_now().number, 9)
        self.assertEqual(self.installer.kept_numbers(), (3, 4, 5, 6, 7, 8))
        self.many_from(10, 13)
        self.assertEqual(self.installer.kept_numbers(), (3, 7, 8, 9, 10, 11, 12))
        self.installer.mark("b")
        self.assertEqual(self.installer.marks_now(), (("a", 3), ("b", 13), ("zz", 3)))
        sums = {number: self.index.parcels_of("tea", Version(str(number)))[0].digest for number in range(1, 14)}
        self.assertEqual(sorted(self.disk.paths("store/")), sorted(f"store/{sums[number]}" for number in (3, 7, 8, 9, 10, 11, 12, 13)))
        self.assertEqual(self.told(self.installer.rollback(3)), ["changed tea 13 3"])
        self.assertEqual(self.installer.kept_numbers(), (3, 8, 9, 10, 11, 12, 13))
        self.assertEqual(self.acts(lambda: self.installer.unmark("a")), [("marks", "mark b 13\nmark zz 3\n")])
        # The base still has the third version, so its text stays.
        self.assertEqual(self.acts(lambda: self.installer.unmark(word="zz")), [("marks", "mark b 13\n"), ("past/3", None)])
        self.assertEqual(self.acts(lambda: self.installer.unmark("b")), [("marks", None)])
        self.assertEqual(self.installer.marks_now(), ())
        self.assertIs(is_sound(self.disk), True)

    def many_from(self, first, last):
        for number in range(first, last + 1):
            self.put("tea", f"{number}")
            self.installer.install(Requirement(f"tea=={number}"))

    def test_unmark_cleans_past_and_store(self):
        self.many(1)
        self.installer.mark("a")
        self.many_from(2, 9)
        digest = self.index.parcels_of("tea", ONE)[0].digest
        self.assertEqual(self.acts(lambda: self.installer.unmark("a")), [("marks", None), ("past/1", None), (f"store/{digest}", None)])

    def test_marks_of_the_base_0(self):
        self.installer.mark("a")
        self.assertEqual((self.disk.text_at("marks"), self.installer.marks_now()), ("mark a 0\n", (("a", 0),)))
        self.many(9)
        self.assertEqual(self.installer.kept_numbers(), (0, 3, 4, 5, 6, 7, 8))
        self.assertEqual(self.told(self.installer.rollback(0)), ["removed tea 9 -"])
        self.assertEqual(str(self.installer.base_now()), "base 10\nenvironment a a 0\n")

    def test_words_of_marks_ascend(self):
        for word in ("b", "aa", "z", "a", "zz", "abcdefghijkl"):
            self.installer.mark(word)
        self.assertEqual([word for word, _ in self.installer.marks_now()], ["a", "b", "z", "aa", "zz", "abcdefghijkl"])
        self.assertIs(type(self.installer.marks_now()), tuple)
        self.assertIs(is_sound(self.disk), True)

    def test_cleaning_of_all_places(self):
        self.many(2)
        texts = disk_model.texts_of(self.disk)
        odd = ["past/10", "past/9", "past/2", "past/" + "9" * 40, "past/01", "past/", "past/x", "past/1/2", "past/1.5", "store/3", "store/20", "store/" + "8" * 60,
               "store/", "store/03", "store/a", "store/-3"]
        for path in odd:
            self.disk.write(path, "z")
        self.assertEqual([fault[0] for fault in faults(self.disk)], ["store"] * 7 + ["waste"] * 9)
        self.assertEqual(self.acts(lambda: self.assertEqual(self.installer.recover(), 2)),
                         [(path, None) for path in ("past/2", "past/9", "past/10", "past/" + "9" * 40, "past/", "past/01", "past/1.5", "past/1/2", "past/x",
                                                    "store/3", "store/20", "store/" + "8" * 60, "store/", "store/-3", "store/03", "store/a")])
        self.assertEqual(disk_model.texts_of(self.disk), texts)
        self.assertEqual(self.installer.kept_numbers(), (0, 1))
        self.disk.write("past/7", "x")
        self.disk.write("past/x", "x")
        self.disk.write("past/007", "x")
        self.assertEqual(self.installer.kept_numbers(), (0, 1, 7))

    def test_an_older_text_that_is_no_base_has_no_sums(self):
        self.many(3)
        one, two, three = [self.index.parcels_of("tea", Version(text))[0].digest for text in "123"]
        for path, text, gone in (("past/1", "x", [one]), ("past/2", self.disk.text_at("past/1"), [two]), ("past/1", self.disk.text_at("past/1")[:-1], [one])):
            disk = worlds.logged({**disk_model.texts_of(self.disk), path: text})
            Installer(disk, self.index, PLACE).recover("undo")
            self.assertEqual(disk.log, [(f"store/{digest}", None) for digest in gone])

    def test_bases_that_cannot_be_read(self):
        self.many(1)
        for text, line in (("", 1), ("base 0\n", 1), ("base 1\n", 2), ("base 1\nenvironment a a 0", 3)):
            self.disk.write("base", text)
            self.refused(BadBase, line, self.installer.base_now)
        self.disk.remove("base")
        self.assertEqual(self.installer.base_now(), Base.of(Disk()))


class ToldTest(Tests):
    def test_why_and_tree(self):
        self.put("tea", "1", "cup", "milk; level < 3", "pot[lid]; level > 50", extras=(("hot", ("fire",)), ("ice", ("water",))))
        self.put("cup", "1", "clay")
        self.put("milk", "1", "clay", "water")
        self.put("clay", "1", "tea")
        self.put("water", "1")
        self.put("pot", "1", "clay")
        self.installer.install(*row_of("tea[ice]", "pot", "water; never"))
        rows = [(0, "tea"), (1, "cup"), (2, "clay"), (3, "tea"), (1, "milk"), (2, "clay"), (2, "water"), (1, "water"), (0, "pot"), (1, "clay")]
        self.assertEqual(list(self.installer.tree()), [(depth, name, ONE) for depth, name in rows])
        for name, chain in (("tea", ("tea",)), ("cup", ("tea", "cup")), ("clay", ("pot", "clay")), ("water", ("tea", "water")), ("pot", ("pot",)),
                            ("milk", ("tea", "milk"))):
            self.assertEqual(self.installer.why(name), chain)
            self.assertEqual(Installer(self.disk, Index(), Environment(level=99)).why(name=name), chain)
        for thing in OTHERS + ("fire", "", "Tea", ("tea",), ["tea"], {"tea": 1}):
            self.refused(NoName, thing, lambda: self.installer.why(thing))
        self.installer.remove("pot", "tea")
        self.assertEqual(list(self.installer.tree()), [])
        self.refused(NoName, "tea", lambda: self.installer.why("tea"))

    def test_the_smallest_of_the_shortest_chains(self):
        self.put("z", "1", "y", "b")
        self.put("a", "1", "n", "m")
        self.put("b", "1", "k")
        self.put("y", "1", "k", "c")
        self.put("m", "1", "k", "goal")
        self.put("n", "1", "goal")
        self.put("c", "1", "goal")
        self.put("k", "1", "goal")
        self.put("goal", "1", "a", "z", "goal")
        self.installer.install(*row_of("z", "a"))
        self.assertEqual(self.installer.why("goal"), ("a", "m", "goal"))
        self.assertEqual(self.installer.why("k"), ("a", "m", "k"))
        self.assertEqual(self.installer.why("c"), ("z", "y", "c"))
        self.installer.remove("a")
        self.assertEqual(self.installer.why("goal"), ("z", "b", "k", "goal"))
        self.assertEqual(self.installer.why("a"), ("z", "b", "k", "goal", "a"))
        self.installer.install(Requirement("k"))
        self.assertEqual(self.installer.why("a"), ("k", "goal", "a"))

    def test_chains_of_twelve_names(self):
        names = [f"n{at}" for at in range(12)]
        for at, name in enumerate(names):
            self.put(name, "1", *names[at + 1:at + 2])
        self.installer.install(Requirement("n0"))
        self.assertEqual(self.installer.why("n11"), tuple(names))
        self.assertEqual([(depth, name) for depth, name, _ in self.installer.tree()], list(enumerate(names)))

    def test_outdated(self):
        self.put("tea", "1", "cup")
        self.put("cup", "1")
        self.put("mug", "1", marker="level < 3")
        self.installer.install(*row_of("tea", "mug"))
        self.assertEqual(list(self.installer.outdated()), [])
        told = self.installer.outdated()
        self.put("mug", "2")
        self.put("tea", "2")
        self.put("cup", "3")
        self.put("cup", "4", marker="never")
        self.assertEqual(list(told), [("cup", ONE, None), ("mug", ONE, TWO), ("tea", ONE, TWO)])
        self.index.withdraw("tea", TWO)
        self.assertEqual(list(self.installer.outdated()), [("cup", ONE, THREE), ("mug", ONE, TWO)])
        self.index.withdraw("mug", TWO)
        self.assertEqual(list(Installer(self.disk, self.index, Environment(level=2)).outdated()), [("cup", ONE, THREE)])
        told = Installer(self.disk, self.index, Environment(level=3)).outdated()
        self.refused(NoChoice, (1,), lambda: next(told))
        self.index.withdraw("mug", ONE)
        told = self.installer.outdated()
        self.refused(NoChoice, (1,), lambda: next(told))
        self.assertEqual(list(Installer(Disk(), self.index, PLACE).outdated()), [])


class RepairTest(Tests):
    def test_repair_written_out(self):
        cup = self.put("cup", "1", parts=(("a", "xx"), ("c", "")))
        tea = self.put("tea", "1", "cup", parts=(("a", "xx"), ("b", "yyy")))
        old = self.put("old", "1")
        self.installer.install(Requirement("old"))
        self.installer.change_all((("remove", "old"), ("install", TEA)))
        whole = disk_model.texts_of(self.disk)
        self.assertEqual(self.acts(lambda: self.assertEqual(self.installer.repair(), ())), [])
        stores = sorted((cup, tea, old), key=lambda one: one.digest)
        for parcel in stores:
            self.disk.remove(f"store/{parcel.digest}")
        self.disk.write("site/a", "z")
        self.disk.remove("site/c")
        wanted = [(f"store/{parcel.digest}", parcel.text) for parcel in stores] + [("site/a", "xx"), ("site/c", "")]
        self.assertEqual(self.acts(lambda: self.assertEqual(self.installer.repair(), tuple(path for path, _ in wanted))), wanted)
        self.assertEqual(disk_model.texts_of(self.disk), whole)
        # What nobody needs is left alone, also by the check of the store.
        self.disk.write("store/5", "x")
        self.disk.write("site/z", "x")
        self.assertEqual(self.acts(lambda: self.assertEqual(self.installer.repair(), ())), [])

    def test_no_repair_and_no_room(self):
        tea, cup = self.put("tea", "1", parts=(("a", "xx"),)), self.put("cup", "1")
        self.installer.install(*row_of("tea", "cup"))
        sums = sorted((tea.digest, cup.digest))
        for digest in sums:
            self.disk.write(f"store/{digest}", "x" * 1000)
        self.disk.write("site/a", "")
        texts = disk_model.texts_of(self.disk)
        self.refused(NoRepair, sums[0], Installer(self.disk, Index(), PLACE).repair)
        other = Index()
        other.add(tea if tea.digest == sums[0] else cup)
        self.refused(NoRepair, sums[1], Installer(self.disk, other, PLACE).repair)
        other.add(Parcel("tea", ONE, "big"), Parcel("cup", ONE, "x"))
        self.refused(NoRepair, sums[1], Installer(self.disk, other, PLACE).repair)
        # A shorter text in the place of a longer one gives no room for others.
        used = sum(map(len, texts.values()))
        small = worlds.logged(texts, used + 1)
        with self.assertRaises(NoRoom) as held:
            Installer(small, self.index, PLACE).repair()
        self.assertEqual((held.exception.wanted, small.log), (used + 2, []))
        self.assertEqual(len(Installer(worlds.logged(texts, used + 2), self.index, PLACE).repair()), 3)

    def test_what_cannot_be_read(self):
        self.put("tea", "1", parts=(("a", "xx"),))
        self.installer.install(TEA)
        self.disk.write("site/a", "")
        self.disk.write("marks", "")
        self.refused(Damaged, ("marks",), self.installer.repair)
        self.disk.write("journal", "x")
        self.refused(Damaged, ("journal", "marks"), self.installer.repair)
        self.disk.write("base", "x")
        self.refused(Damaged, ("base", "journal", "marks"), self.installer.repair)
        self.disk.remove("journal")
        self.disk.remove("marks")
        self.refused(Damaged, ("base",), self.installer.repair)

    def test_with_a_journal_only_the_store(self):
        tea = self.put("tea", "1", parts=(("a", "xx"),))
        self.disk.cut_after(4)
        with self.assertRaises(PowerCut):
            self.installer.install(TEA)
        self.disk.power_on()
        self.disk.remove(f"store/{tea.digest}")
        self.disk.write("site/a", "")
        self.assertEqual(self.acts(lambda: self.assertEqual(self.installer.repair(), (f"store/{tea.digest}",))), [(f"store/{tea.digest}", tea.text)])
        self.assertEqual(self.installer.recover("finish"), 1)
        self.assertEqual(self.disk.text_at("site/a"), "xx")


class ErrorsTest(Tests):
    def world(self):
        """A disk with tea, and parcels for all kinds of refusals."""
        self.put("tea", "1", parts=(("t", "tea"),))
        self.put("tea", "0.5", parts=(("t", "old tea"),))
        self.put("one", "1", parts=(("p", "1"), ("q", "")))
        self.put("two", "1", parts=(("p", "2"), ("q", "2")))
        self.put("far", "1", parts=(("f", "far"),))
        self.installer.install(TEA)

    def small(self, room):
        """The same disk with a room."""
        self.disk = worlds.logged(disk_model.texts_of(self.disk), room)
        self.installer = Installer(self.disk, self.index, PLACE)

    def test_environments(self):
        for thing in OTHERS + ("a a 0", HERE):
            for make in (lambda: Installer(self.disk, self.index, thing), lambda: Installer(disk=None, source=None, environment=thing)):
                with self.assertRaises(BadEnvironment) as held:
                    make()
                self.assertIs(held.exception.given, thing)

    def test_what_is_begun_and_damaged(self):
        self.world()
        calls = {"install": (TEA,), "remove": ("zz",), "upgrade": ("zz",), "change_all": ((("remove", "zz"),),), "would": ((("upgrade", "zz"),),),
                 "rollback": (77,), "apply": (lock_everywhere(self.index, row_of("zz")),), "mark": ("a",), "unmark": ("a",)}
        base = self.disk.text_at("base")
        self.disk.write("journal", base + "then\n" + base.replace("base 1", "base 2"))
        self.disk.write("base", "x")
        self.disk.write("marks", "x")
        for word in calls:
            self.refused(Pending, 2, lambda: getattr(self.installer, word)(*calls[word]))
        for text in ("", "x", base, base + "then\n", base + base.replace("base 1", "base 2"), base + "then\n" + base, base + "then\n" + base.replace("base 1", "base 3"),
                     base + "then\n" + base.replace("base 1", "base 2")[:-1], "base 0\nthen\nbase 0\n", "base 0\nthen\n" + base + "\n", "\nthen\n" + base):
            self.disk.write("journal", text)
            for word in calls:
                self.refused(Damaged, (("journal",),), lambda: getattr(self.installer, word)(*calls[word]))
        self.disk.remove("journal")
        for word in calls:
            self.refused(Damaged, (("base",), ("marks",)), lambda: getattr(self.installer, word)(*calls[word]))
        self.disk.write("base", base)
        self.disk.remove("marks")
        self.disk.write("past/7", "")
        self.disk.write("site/t", "")
        for word in calls:
            self.refused(Damaged, (("site", "t"), ("waste", "past/7")), lambda: getattr(self.installer, word)(*calls[word]))
        # What is wrong with the arguments comes first.
        twice = Lock.read("lock\nrequest tea\nrequest tea<5\nenvironment a a 0\nnothing\n")
        for word, things, kind, given in (("install", (TEA, "tea"), BadRequirement, "tea"), ("change_all", ((("remove", "zz"), ("x",)),), BadStep, 1),
                                          ("would", ([],), BadStep, None), ("apply", ("lock",), BadText, "lock"), ("mark", ("A",), BadName, "A"),
                                          ("apply", (twice,), BadRequirement, twice.requests), ("unmark", ("",), BadName, ""), ("recover", ("x",), BadWay, "x")):
            self.refused(kind, given, lambda: getattr(self.installer, word)(*things))

    def test_wrong_requirements(self):
        self.world()
        for thing in OTHERS + ("tea", ("tea",), (TEA,), Requirement):
            self.refused(BadRequirement, thing, lambda: self.installer.install(thing))
            self.refused(BadRequirement, thing, lambda: self.installer.install(TEA, thing, None))

    def test_wrong_steps(self):
        self.world()
        for call in (self.installer.change_all, self.installer.would):
            for thing in [one for one in OTHERS if type(one) is not tuple] + [[("install", TEA)], "install", {("install",): 1}]:
                self.refused(BadStep, None, lambda: call(thing))
            wrong = OTHERS + ((), [], ["install", TEA], "install", ("Install", TEA), ("install", "tea"), ("install", TEA, None), ("remove", TEA), ("remove", "tea", 5),
                              ("upgrade", None), ("upgrade", TEA), (None,), (("install",),), ("apply",), (Likes(), TEA), ("remove", Likes()), ("install", Likes()),
                              ("install", (TEA,)), ("rollback", 0), (["install"], TEA), ("remove", ("tea",)))
            for thing in wrong:
                if thing != ("remove", "tea"):
                    self.refused(BadStep, 0, lambda: call((thing,)))
                    self.refused(BadStep, 0, lambda: call((thing, None)))
                    self.refused(BadStep, 2, lambda: call((("remove", "zz"), ("upgrade", "zz"), thing, thing)))

    def test_no_request_and_no_name_step_by_step(self):
        self.world()
        for thing in OTHERS + ("zz", "one", "", ["tea"], ("tea",), TEA):
            self.refused(NoRequest, thing, lambda: self.installer.remove(thing))
            self.refused(NoRequest, thing, lambda: self.installer.remove("tea", thing))
            self.refused(NoName, thing, lambda: self.installer.upgrade(thing))
            self.refused(NoName, thing, lambda: self.installer.upgrade("tea", thing, "yy"))
        for call in (self.installer.change_all, self.installer.would):
            for steps, kind, given in (((("remove", "tea"), ("remove", "tea")), NoRequest, "tea"), ((("upgrade", "zz"), ("remove", "yy")), NoName, "zz"),
                                       ((("remove", "yy"), ("upgrade", "zz")), NoRequest, "yy"), ((("install", Requirement("one")), ("upgrade", "one")), NoName, "one"),
                                       ((("install", Requirement("zz")), ("remove", "tea", "zz", "xx")), NoRequest, "xx"),
                                       ((("install", Requirement("zz")), ("upgrade", "zz")), NoName, "zz")):
                self.refused(kind, given, lambda: call(steps))
        # A name of the base can be upgraded though its request was removed in front.
        self.assertEqual(self.told(self.installer.would((("remove", "tea"), ("upgrade", "tea")))), ["removed tea 1 -"])

    def test_choices_paths_and_room_in_their_order(self):
        self.world()
        self.disk.write("site/q", "mine")
        self.disk.write("site/p", "mine")
        self.disk.write("site/f", "far")
        self.small(self.disk.used)
        both, far = row_of("one", "two"), row_of("far")
        for steps, kind, given in (((("install",) + both + row_of("zz"),), NoChoice, (3,)), ((("install",) + both,), PathClash, "p"),
                                   ((("install",) + both[:1],), Foreign, "p"), ((("install",) + far,), Foreign, "f")):
            self.refused(kind, given, lambda: self.installer.change_all(steps))
            self.refused(kind, given, lambda: self.installer.would(steps))
            self.refused(kind, given, lambda: self.installer.install(*steps[0][1:]))
        self.disk.remove("site/p")
        self.refused(Foreign, "q", lambda: self.installer.install(*both[:1]))
        self.disk.remove("site/q")
        self.disk.remove("site/f")
        need = self.needed(row_of("far"))
        self.small(need - 1)
        self.refused(NoRoom, need, lambda: self.installer.install(*far))
        self.refused(NoRoom, need, lambda: self.installer.would((("install",) + far,)))
        self.refused(PathClash, "p", lambda: self.installer.install(*both))
        self.small(need)
        self.assertEqual(self.told(self.installer.install(*far)), ["added far - 1"])

    def needed(self, more):
        """What a change needs that adds requests for parcels without needs, added up by the words of point 31."""
        old = self.installer.base_now()
        parcels = [self.index.parcels_of(one.name, ONE)[0] for one in more]
        rows = sorted(list(old.rows) + [(one.name, one.version, (), one.label, one.digest) for one in parcels])
        new = disk_model.text_of(disk_model.Base(old.number + 1, PLACE, old.requests + more, rows))
        texts = disk_model.texts_of(self.disk)
        need = sum(map(len, texts.values())) + sum(len(one.text) for one in parcels) + len(str(old)) + len("then\n") + len(new) + len(str(old))
        need += max(0, len(new) - (len(str(old)) if old.number else 0))
        return need + sum(len(text) for one in parcels for _, text in one.parts)

    def test_room_of_the_first_change(self):
        self.put("tea", "1", parts=(("t", "hot\n"),))
        need = self.needed((TEA,))
        self.small(need - 1)
        self.refused(NoRoom, need, lambda: self.installer.install(TEA))
        self.small(need)
        self.installer.install(TEA)
        self.assertLessEqual(self.disk.used, need)

    def test_locks(self):
        self.world()
        lock = lock_everywhere(self.index, row_of("one"))
        rows = lock.section_for(PLACE)
        for thing in OTHERS + (str(lock), lock.sections, Lock):
            self.refused(BadText, thing, lambda: self.installer.apply(thing))
        text = str(lock)
        for other, kind, given in ((text.replace("request one\n", "request one\nrequest one<9\n"), BadRequirement, row_of("one", "one<9")),
                                   ("lock\nrequest one\nenvironment a a 0\nnothing\n", NoSection, PLACE),
                                   ("lock\nrequest one\nquestion level < 3\nenvironment a a 7\n", NoSection, PLACE),
                                   (text.replace(str(rows[0][4]), "5"), WrongSum, "one"), (text.replace("one 1 - all", "one 9 - all").replace(str(rows[0][4]), "5"), NoParcel, "one"),
                                   (text.replace(f"all {rows[0][4]}", "big 5"), NoParcel, "one"), (text.replace(f"row one 1 - all {rows[0][4]}", "row zz 1 - all 5"), NoParcel, "zz"),
                                   (text.replace("one 1 - all", "one 0.5 - all"), NoParcel, "one"), (text.replace("one 1 - all", "one 1 - big"), NotClosed, PLACE),
                                   (text.replace("request one", "request two"), NotClosed, PLACE), (text.replace("request one\n", ""), NotClosed, PLACE),
                                   (text.replace("one 1 -", "one 1 x"), NotClosed, PLACE), (text.replace("row one", "row two").replace(str(rows[0][4]), "5"), WrongSum, "two")):
            bad = Lock.read(other)
            wanted = bad.requests if kind is BadRequirement else given
            self.refused(kind, wanted, lambda: self.installer.apply(bad))
            self.refused(kind, wanted, lambda: self.installer.apply(lock=bad))
        # The first row counts, whatever is wrong with it.
        two = str(lock_everywhere(self.index, row_of("far", "one")))
        sums = [row[4] for row in lock_everywhere(self.index, row_of("far", "one")).section_for(PLACE)]
        self.refused(WrongSum, "far", lambda: self.installer.apply(Lock.read(two.replace(str(sums[0]), "5").replace(f"one 1 - all {sums[1]}", "one 1 - big 5"))))
        self.refused(NoParcel, "far", lambda: self.installer.apply(Lock.read(two.replace(f"far 1 - all {sums[0]}", "far 1 - big 5").replace(str(sums[1]), "6"))))
        self.disk.write("site/p", "")
        self.refused(PathClash, "p", lambda: self.installer.apply(lock_of(choose(self.index, row_of("one", "two"), HERE))))
        self.refused(Foreign, "p", lambda: self.installer.apply(lock))
        self.disk.remove("site/p")
        self.small(self.disk.used)
        with self.assertRaises(NoRoom):
            self.installer.apply(lock)
        self.small(None)
        self.assertEqual(self.told(self.installer.apply(lock)), ["added one - 1", "removed tea 1 -"])

    def test_locks_with_parcels_of_the_store(self):
        self.world()
        lock = lock_everywhere(self.index, (TEA,))
        digest = lock.section_for(PLACE)[0][4]
        other = Installer(self.disk, Index(), PLACE)
        self.assertEqual(self.told(other.remove("tea")), ["removed tea 1 -"])
        # The source has nothing, but the store still has the parcel, for an older base has it.
        self.assertIn(f"store/{digest}", self.disk)
        self.assertEqual(self.told(other.apply(lock)), ["added tea - 1"])
        self.index.withdraw("tea", ONE)
        self.installer.remove("tea")
        self.assertEqual(self.told(self.installer.apply(lock)), ["added tea - 1"])
        self.refused(NoParcel, "tea", lambda: Installer(Disk(), Index(), PLACE).apply(lock))

    def test_rollbacks(self):
        self.world()
        self.installer.install(Requirement("far"))
        for thing in OTHERS + ("0", "1", 1.0, (1,), 2, 3, 77, -1, 10 ** 49, ["1"]):
            if not (type(thing) is int and thing == 0):
                self.refused(NoPast, thing, lambda: self.installer.rollback(thing))
        self.disk.write("past/1", "base 1\nenvironment a a 0\nrequest one\n")
        self.refused(NotClosed, PLACE, lambda: self.installer.rollback(1))
        self.disk.write("past/1", "base 1\nenvironment b c 5\nrequest one; system == b\nrequest tea; system == a\n")
        self.refused(NotClosed, Environment(system="b", machine="c", level=5), lambda: self.installer.rollback(number=1))
        self.disk.write("past/1", "base 1\nenvironment b c 5\nrequest one; system == a\n")
        self.assertEqual(self.told(self.installer.rollback(1)), ["removed far 1 -", "removed tea 1 -"])
        self.assertEqual(str(self.installer.base_now()), "base 3\nenvironment b c 5\nrequest one; system == a\n")
        self.assertEqual(self.installer.rollback(0), ())
        self.assertEqual(str(self.installer.base_now()), "base 4\nenvironment a a 0\n")
        self.assertEqual(self.told(self.installer.rollback(2)), ["added far - 1", "added tea - 1"])
        self.disk.remove("past/0")
        self.refused(NoPast, 0, lambda: self.installer.rollback(0))
        self.installer.remove("far")
        self.disk.write("site/f", "")
        self.refused(Foreign, "f", lambda: self.installer.rollback(5))

    def test_a_rollback_to_what_there_is(self):
        self.world()
        self.installer.install(Requirement("far"))
        self.installer.remove("far")
        self.assertEqual(self.acts(lambda: self.assertEqual(self.installer.rollback(1), ())), [])
        fresh = Installer(Disk(), self.index, PLACE)
        self.refused(NoPast, 0, lambda: fresh.rollback(0))

    def test_marks(self):
        self.world()
        for thing in OTHERS + ("", "A", "a1", "a b", "abcdefghijklm", ("a",), ["a"]):
            self.refused(BadName, thing, lambda: self.installer.mark(thing))
            self.refused(BadName, thing, lambda: self.installer.unmark(thing))
        self.refused(NoMark, "a", lambda: self.installer.unmark("a"))
        self.installer.mark("a")
        self.refused(Taken, "a", lambda: self.installer.mark("a"))
        self.refused(NoMark, "b", lambda: self.installer.unmark("b"))
        self.small(self.disk.used + len("mark bb 1\n") - 1)
        self.refused(Taken, "a", lambda: self.installer.mark("a"))
        self.refused(NoRoom, self.disk.used + len("mark bb 1\n"), lambda: self.installer.mark("bb"))
        self.installer.mark("b")
        self.installer.unmark("a")
        self.assertEqual(self.installer.marks_now(), (("b", 1),))
        self.installer.unmark("b")
        self.assertNotIn("marks", self.disk)

    def test_recoveries(self):
        self.world()
        for thing in OTHERS + ("", "Finish", "finish ", "undone", ("finish",), ["undo"]):
            self.refused(BadWay, thing, lambda: self.installer.recover(thing))
            self.refused(BadWay, thing, lambda: self.installer.recover(way=thing))
        self.disk.write("marks", "x")
        self.refused(Damaged, ("marks",), self.installer.recover)
        self.disk.write("base", "x")
        self.refused(Damaged, ("base", "marks"), lambda: self.installer.recover("undo"))
        self.disk.write("journal", "x")
        self.refused(Damaged, ("journal", "marks"), lambda: self.installer.recover("undo"))
        self.disk.remove("journal")
        self.disk.remove("marks")
        self.disk.remove("base")
        self.assertEqual(self.installer.recover(), 0)

    def test_recoveries_without_all_texts(self):
        self.world()
        self.disk.cut_after(5)
        with self.assertRaises(PowerCut):
            self.installer.change_all((("install",) + row_of("far", "one"), ("remove", "tea")))
        self.disk.power_on()
        whole = disk_model.texts_of(self.disk)
        sums = sorted(f"store/{self.index.parcels_of(name, ONE)[0].digest}" for name in ("far", "one", "tea"))
        self.disk.write("base", "x")
        for path, text in zip(sums, (None, "x", whole[sums[0]])):
            if text is None:
                self.disk.remove(path)
            else:
                self.disk.write(path, text)
        for way in ("finish", "undo"):
            self.refused(Damaged, tuple(sums), lambda: self.installer.recover(way))
        self.disk.write("marks", "")
        self.refused(Damaged, ("marks",) + tuple(sums), self.installer.recover)
        self.disk.remove("marks")
        for path in sums:
            self.disk.write(path, whole[path])
        twin = self.disk.twin()
        self.assertEqual(Installer(twin, self.index, PLACE).recover("undo"), 1)
        self.assertEqual(self.installer.recover(), 2)
        self.assertEqual((sorted(twin.paths("site/")), sorted(self.disk.paths("site/"))), (["site/t"], ["site/f", "site/p", "site/q"]))

    def test_class_has_its_methods_itself(self):
        for name in ("__init__", "base_now", "kept_numbers", "marks_now", "install", "remove", "upgrade", "change_all", "apply", "rollback", "would", "recover",
                     "repair", "mark", "unmark", "why", "tree", "outdated"):
            self.assertIn(name, vars(Installer))
        self.assertEqual(Installer.__module__, "parcelindex.installers")


if __name__ == "__main__":
    unittest.main()
