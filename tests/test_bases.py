"""Bases: their texts, the first wrong line of a text, the base of a disk; and sources in which something stands."""

import itertools
import random
import unittest

import bending
import choice_model
import lock_model
import model
from choice_model import HERE, NORTH, Likes, index_of, row_of
from parcelindex.bases import Base, Standing
from parcelindex.choosing import choose
from parcelindex.disks import Disk
from parcelindex.environments import Environment
from parcelindex.errors import BadBase, BadEnvironment, BadText, NoRelease
from parcelindex.markers import Marker
from parcelindex.parcels import Parcel
from parcelindex.sources import Index, Layers, Source
from parcelindex.tastes import Keeping
from parcelindex.versions import Version

ONE, TWO, THREE = Version("1"), Version("2"), Version("3")
PRIME = 2 ** 61 - 1
ROWS = (("a-1", Version("1.4rc5"), ("b", "aa"), "all", PRIME - 1), ("b", TWO, (), "x", 17), ("ba", THREE, ("c",), "x", 17))


def base_text(number=5, place="a a 0", requests=(), rows=()):
    return lock_model.text_of_base(number, place, requests, rows)


SAMPLES = (base_text(1), base_text(20, "north big 99", ("tea", "cup[ice,milk]>=1,<2; level < 3"), ROWS), base_text(10 ** 20, rows=ROWS[1:2]),
           base_text(7, "b a 1", ("tea<0a0",)))
ZERO = base_text(0)


class BaseTest(unittest.TestCase):
    def check(self, text):
        wanted = lock_model.wrong_line_of_base(text)
        if wanted is None:
            self.assertEqual(str(Base.read(text)), text)
            return 0
        with self.assertRaises(BadBase) as held:
            Base.read(text)
        self.assertEqual((held.exception.line, type(held.exception.line)), (wanted, int), text)
        return 1

    def test_properties(self):
        base = Base.read(SAMPLES[1])
        self.assertEqual((base.number, base.environment, base.rows), (20, Environment(system="north", machine="big", level=99), ROWS))
        self.assertEqual([str(one) for one in base.requests], ["tea", "cup[ice,milk]>=1,<2; level < 3"])
        self.assertEqual([type(part) for part in (base.number, base.environment, base.requests, base.rows)], [int, Environment, tuple, tuple])
        self.assertEqual([[type(part) for part in row] for row in base.rows], [[str, Version, tuple, str, int]] * 3)
        self.assertEqual(str(base), SAMPLES[1])
        self.assertEqual(str(base), "base 20\nenvironment north big 99\nrequest tea\nrequest cup[ice,milk]>=1,<2; level < 3\n"
                         f"row a-1 1.4rc5 b,aa all {PRIME - 1}\nrow b 2 - x 17\nrow ba 3 c x 17\n")

    def test_lines_written_out(self):
        head = "base 5\nenvironment a a 0\n"
        for text, line in (("", 1), ("\n", 1), ("base", 1), ("base 5", 2), ("base 5\n", 2), (head, None), (head[:-1], 3), ("base 0\n", None),
                           ("base 0", 2), ("base 0\nx", 2), ("base 0\n\n", 2), ("base 0\nenvironment a a 0\n", 2), ("base 0\nthen\n", 2),
                           ("base 00\n", 1), ("base -0\n", 1), ("base 0 \n", 1), ("base 0\t\n", 1), ("base 05\n" + head[7:], 1), ("base -5\n" + head[7:], 1),
                           ("base  5\n", 1), ("base 5 \n", 1), ("base five\n", 1), ("base +5\n", 1), ("Base 5\n", 1), (head + "request tea\n", None),
                           (head + "request tea\nrequest tea\n", 4), (head + "request tea\nrequest cup\nrequest tea>1\n", 5),
                           (head + "request tea\nrequest tea-1\n", None), (head + "request tea*\n", 3), (head + "question always\n", 3),
                           (head + "nothing\n", 3), (head + "environment a a 1\n", 3), (head + "row a 1 - all 5\n", None),
                           (head + "row a 1 - all 5\nrequest tea\n", 4), (head + "row a 1 - all 5", 4), (head + "row b 1 - all 5\nrow a 1 - all 5\n", 4),
                           (head + f"row a 1 - all {PRIME}\n", 3), (head + f"row a 1 - all {bending.DIGITS}\n", 3), (head + "row a 1.0 - all 5\n", 3),
                           ("base 5\nrequest tea\n", 2), ("base 5\nenvironment a a 00\n", 2), ("base 5\n\nenvironment a a 0\n", 2), (head + "\n", 3),
                           (f"base 1{'0' * 49}\nenvironment a a 0\n", None), ("lock\nenvironment a a 0\n", 1), (head + "then\n", 3)):
            self.assertEqual(lock_model.wrong_line_of_base(text), line, text)
            self.check(text)

    def test_number_0(self):
        base = Base.read("base 0\n")
        self.assertIs(type(base), Base)
        self.assertEqual((base.number, base.environment, base.requests, base.rows, str(base)), (0, None, (), (), "base 0\n"))
        self.assertEqual([type(part) for part in (base.number, base.requests, base.rows)], [int, tuple, tuple])

    def test_bent_texts(self):
        lines = ("base 1", "base 0", "base 5", "request tea", "request zz", "request a[b]<0a0", "question always", "environment a a 0", "nothing",
                 "row a 1 - all 5", "row zz 2rc1 a,b all 5", "row b 1 - all " + str(PRIME), "", "x", "row b 1 - all " + bending.DIGITS, "then", "\t")
        for text in SAMPLES + (ZERO,):
            self.check(text)
            for other in itertools.chain(bending.cut_off(text), bending.bent_lines(text, lines)):
                self.check(other)
        for other in itertools.chain(bending.bent_signs(SAMPLES[2], "a1 -,\n"), bending.bent_signs(SAMPLES[3], "a; \n"), bending.bent_signs(ZERO, "a01 -\n")):
            self.check(other)
        found = [self.check(text) for text in bending.bent_often(SAMPLES, lines + ("\n", "a", "1", " ", "") * 3, 1500, 6)]
        self.assertGreater(found.count(0), 5)

    def test_other_objects(self):
        for thing in model.OTHERS + (0, Likes(), ["base"], SAMPLES[0].encode(), Base.read(SAMPLES[0])):
            with self.assertRaises(BadText) as held:
                Base.read(text=thing)
            self.assertIs(held.exception.given, thing)

    def test_base_of_a_disk(self):
        disk = Disk()
        base = Base.of(disk)
        self.assertEqual((base.number, base.environment, base.requests, base.rows, str(base)), (0, None, (), (), "base 0\n"))
        for text in SAMPLES:
            disk.write("base", text)
            self.assertEqual(str(Base.of(disk=disk)), text)
            self.assertIs(type(Base.of(disk)), Base)
        acts = disk.acts
        for text, line in (("", 1), ("base 0\n", 1), ("base 0", 1), ("base 0\nx", 1), ("base 0\nenvironment a a 0\n", 1), ("base 5\n", 2),
                           (SAMPLES[1][:-1], 8), (SAMPLES[1] + "row b 1 - x 1\n", 8), ("x", 1)):
            disk.write("base", text)
            with self.assertRaises(BadBase) as held:
                Base.of(disk)
            self.assertEqual((held.exception.line, lock_model.wrong_line_of_base_file(text)), (line, line), text)
        self.assertEqual(disk.acts, acts + 9)

    def test_equality(self):
        bases = [Base.read(text) for text in SAMPLES] + [Base.of(Disk())]
        for one, other in itertools.product(bases, repeat=2):
            self.assertIs(one == other, one is other)
        self.assertIs(Base.of(Disk()) == bases[-1], True)
        self.assertIs(Base.read(ZERO) == bases[-1], True)
        self.assertIs(Base.read(ZERO) == bases[0], False)
        self.assertIs(Base.read(SAMPLES[1]) == bases[1], True)
        self.assertIs(Base.read(SAMPLES[1]) != bases[1], False)
        for thing in model.OTHERS + (0, SAMPLES[0], Base, Likes()):
            self.assertIs(bases[0] == thing, False)
            self.assertIs(bases[0] != thing, True)

    def test_class_has_its_methods_itself(self):
        for name in ("number", "environment", "requests", "rows"):
            self.assertIsInstance(vars(Base)[name], property)
        for name in ("__str__", "__eq__", "read", "of"):
            self.assertIn(name, vars(Base))
        self.assertIsInstance(vars(Base)["read"], staticmethod)
        self.assertIsInstance(vars(Base)["of"], classmethod)
        self.assertEqual((Base.__module__, Standing.__module__), ("parcelindex.bases",) * 2)
        self.assertTrue(issubclass(Standing, Source))


def put(disk, *parcels, number=3, requests=()):
    """Puts a base with these parcels on a disk, and their texts into the store."""
    rows = [(one.name, one.version, (), one.label, one.digest) for one in sorted(parcels, key=lambda one: one.name)]
    disk.write("base", base_text(number, "a a 0", requests, rows))
    for parcel in parcels:
        disk.write(f"store/{parcel.digest}", parcel.text)


class StandingTest(unittest.TestCase):
    def check(self, standing, source, upheld):
        """All that a source tells, with these parcels that stand."""
        names = sorted(set(source.names()) | {one.name for one in upheld})
        self.assertEqual(standing.names(), tuple(names))
        count = 0
        for name in names + ["other"]:
            mine = [one for one in upheld if one.name == name]
            versions = sorted({version.rank for version in source.versions_of(name)} | {one.version.rank for one in mine}, reverse=True)
            self.assertEqual([version.rank for version in standing.versions_of(name)], versions)
            self.assertIs(type(standing.versions_of(name)), tuple)
            self.assertIs(standing.has_name(name), name in names)
            count += len(versions)
            for version in standing.versions_of(name):
                its = source.parcels_of(name, version) if version in source.versions_of(name) else ()
                first = [one for one in mine if one.version == version]
                wanted = first + [one for one in its if one.digest not in [one.digest for one in first]]
                self.assertEqual([one.text for one in standing.parcels_of(name, version)], [one.text for one in wanted])
                self.assertIs(type(standing.parcels_of(name, version)), tuple)
                self.assertIs(standing.is_withdrawn(name, version), its != () and source.is_withdrawn(name, version))
                for place in choice_model.PLACES:
                    fitting = [one for one in wanted if one.marker(place)]
                    found = standing.parcel_for(name, version, place)
                    self.assertEqual(None if found is None else found.text, fitting[0].text if fitting else None)
        self.assertEqual(standing.release_count(), count)

    def test_what_stands_is_read_from_the_disk(self):
        for seed in range(60):
            chance = random.Random(seed)
            source, _, _, _ = choice_model.made_call(seed)
            disk = Disk()
            standing = Standing(disk, source)
            self.check(standing, source, ())
            mine = [source.parcels_of(name, version)[-1] for name in source.names() for version in source.versions_of(name)[:1] if chance.random() < 0.6]
            mine += [Parcel("new", THREE, needs=row_of("tea")), Parcel("zz", Version("1a0"), "big", marker=Marker("level < 3"))][:chance.randint(0, 2)]
            if chance.random() < 0.5:
                name = source.names()[0]
                mine = [one for one in mine if one.name != name] + [Parcel(name, Version("7.7"), parts=(("a", "b"),))]
            put(disk, *mine)
            acts = disk.acts
            self.check(standing, source, mine)
            self.check(Standing(source=source, disk=disk), source, mine)
            self.assertEqual(disk.acts, acts)
            # A row without a right text in the store does not count.
            for at, bend in enumerate((lambda path: disk.remove(path), lambda path: disk.write(path, "x"), lambda path: disk.write(path, disk.text_at(path)[:-1]),
                                       lambda path: disk.write(path, Parcel("aa", ONE, "odd").text))):
                if mine:
                    lost = mine.pop(chance.randrange(len(mine)))
                    bend(f"store/{lost.digest}")
                    self.check(standing, source, mine)
            for text in ("x", "base 0\n", "", disk.text_at("base")[:-1]):
                disk.write("base", text)
                self.check(standing, source, ())
            disk.remove("base")
            self.check(standing, source, ())

    def test_written_out(self):
        index, disk = index_of(("tea", "1"), ("tea", "3"), ("cup", "1")), Disk()
        index.add(Parcel("tea", ONE, "b", needs=row_of("cup")), Parcel("tea", ONE, "c"))
        index.withdraw("tea", ONE)
        standing = Standing(disk, index)
        stays = index.parcels_of("tea", ONE)[1]
        put(disk, stays, Parcel("mug", TWO))
        self.assertEqual(standing.names(), ("cup", "mug", "tea"))
        self.assertEqual([one.label for one in standing.parcels_of("tea", ONE)], ["b", "all", "c"])
        self.assertIs(standing.is_withdrawn("tea", ONE), True)
        self.assertIs(standing.is_withdrawn("mug", TWO), False)
        self.assertEqual(standing.parcel_for("tea", ONE, NORTH).label, "b")
        self.assertEqual(standing.release_count(), 4)
        other = Parcel("tea", TWO, "b")
        put(disk, other)
        self.assertEqual([str(version) for version in standing.versions_of("tea")], ["3", "2", "1"])
        self.assertEqual([one.label for one in standing.parcels_of("tea", ONE)], ["all", "b", "c"])
        self.assertEqual([one.label for one in standing.parcels_of("tea", TWO)], ["b"])
        self.assertEqual((standing.has_name("mug"), standing.release_count()), (False, 4))
        # The same label with another text: both are there.
        put(disk, Parcel("tea", THREE, parts=(("a", "b"),)))
        self.assertEqual([(one.label, len(one.parts)) for one in standing.parcels_of("tea", THREE)], [("all", 1), ("all", 0)])

    def test_rows_with_the_sums_of_other_releases(self):
        disk, parcel = Disk(), Parcel("tea", ONE)
        disk.write(f"store/{parcel.digest}", parcel.text)
        for name, version, label, upheld in (("tea", ONE, "all", (parcel,)), ("cup", ONE, "all", ()), ("tea", TWO, "all", ()), ("tea", ONE, "big", (parcel,))):
            disk.write("base", base_text(rows=[(name, version, (), label, parcel.digest)]))
            self.check(Standing(disk, index_of(("tea", "3"), ("cup", "1"))), index_of(("tea", "3"), ("cup", "1")), upheld)

    def test_choosing_from_it(self):
        index, disk = index_of(("tea", "1"), ("tea", "2")), Disk()
        standing = Standing(disk, index)
        put(disk, Parcel("tea", Version("2rc1"), needs=row_of("cup")), Parcel("cup", ONE))
        kept = Keeping((("tea", Version("2rc1")), ("cup", ONE)))
        found = choose(standing, row_of("tea"), HERE, taste=kept)
        self.assertEqual([f"{name} {version}" for name, version in found.picks], ["cup 1", "tea 2rc1"])
        self.assertEqual([f"{name} {version}" for name, version in choose(standing, row_of("tea"), HERE).picks], ["tea 2"])
        disk.remove("base")
        self.assertEqual([f"{name} {version}" for name, version in choose(standing, row_of("tea"), HERE, taste=kept).picks], ["tea 2"])

    def test_over_other_sources(self):
        disk, mine = Disk(), Parcel("tea", TWO)
        put(disk, mine)
        inner = Standing(disk, Index())
        self.check(inner, Index(), (mine,))
        self.check(Layers(inner, index_of(("tea", "1"), ("cup", "1"))), index_of(("cup", "1")), (mine,))
        other = Disk()
        put(other, Parcel("cup", ONE))
        self.check(Standing(other, inner), inner, (Parcel("cup", ONE),))

    def test_errors(self):
        index, disk = index_of(("tea", "1")), Disk()
        put(disk, Parcel("cup", TWO))
        standing = Standing(disk, index)
        for name, version in (("tea", TWO), ("cup", ONE), ("mug", ONE), (None, ONE), (["cup"], TWO), ("cup", "2"), ("cup", None), (Likes(), TWO),
                              ("cup", Likes()), ("tea", "1"), ({"cup": 1}, TWO), ("cup", TWO.rank)):
            for call in (standing.parcels_of, standing.is_withdrawn, lambda *row: standing.parcel_for(*row, HERE[0]),
                         lambda *row: standing.parcel_for(*row, None)):
                with self.assertRaises(NoRelease) as held:
                    call(name, version)
                self.assertIs(type(held.exception.given), tuple)
                self.assertIs(held.exception.given[0], name)
                self.assertIs(held.exception.given[1], version)
        for name, version in (("tea", ONE), ("cup", TWO)):
            for place in model.OTHERS + ("a a 0", HERE, Likes()):
                with self.assertRaises(BadEnvironment) as held:
                    standing.parcel_for(name, version, environment=place)
                self.assertIs(held.exception.given, place)
        for thing in model.OTHERS + (["cup"], Likes(), "Cup", ("cup",), {"cup": 1}):
            self.assertEqual(standing.versions_of(thing), ())
            self.assertIs(standing.has_name(thing), False)


if __name__ == "__main__":
    unittest.main()
