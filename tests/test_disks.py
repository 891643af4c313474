"""Disks: rows of acts against a dict, with and without a room, with cuts, and the errors in their order."""

import random
import unittest

import model
from choice_model import Likes
from parcelindex.disks import Disk
from parcelindex.errors import BadCount, BadPath, BadText, NoPath, NoRoom, PowerCut

PATHS = ("a", "b", "a/b", "store/1", "store/10", "-", "z" * 80)
TEXTS = ("", "x", "hot\n", "\n\n", "y" * 30, "z" * 400)
BAD_TEXTS = (None, 5, b"hot", ["hot"], chr(37), "a\tb", "\r", "\u00e9", "\0", chr(127), "\u2028", "\ud800", Likes())
BAD_PATHS = model.OTHERS[:1] + model.OTHERS[3:] + (True, 0, "", "z" * 81, "A", "a b", "a\n", "a_b", "\u00e9", "a" + chr(37), ("a",), Likes())


class Twin:
    """A second way to tell what a disk does [25]."""

    def __init__(self, room):
        self.room, self.texts, self.acts, self.left = room, {}, 0, None

    def write(self, path, text):
        """What is raised, as an error class and its field, or None."""
        if self.left == 0:
            return PowerCut, self.acts
        texts = {**self.texts, path: text}
        wanted = sum(map(len, texts.values()))
        if self.room is not None and wanted > self.room:
            return NoRoom, wanted
        return self.act(texts)

    def remove(self, path):
        if path not in self.texts:
            return NoPath, path
        if self.left == 0:
            return PowerCut, self.acts
        return self.act({one: text for one, text in self.texts.items() if one != path})

    def act(self, texts):
        self.texts, self.acts = texts, self.acts + 1
        self.left = None if self.left is None else self.left - 1


class DiskTest(unittest.TestCase):
    def refused(self, kind, given, call):
        with self.assertRaises(kind) as held:
            call()
        self.assertIs(type(held.exception), kind)
        field = "done" if kind is PowerCut else "wanted" if kind is NoRoom else "given"
        self.assertEqual(vars(held.exception), {field: given})
        self.assertIs(getattr(held.exception, field), given)

    def same(self, disk, twin):
        """All that a disk tells, against the model."""
        self.assertEqual((disk.room, disk.acts, disk.used, len(disk)), (twin.room, twin.acts, sum(map(len, twin.texts.values())), len(twin.texts)))
        self.assertEqual({path: disk.text_at(path) for path in disk.paths()}, twin.texts)
        for beginning in ("", "a", "a/", "store/", "store/1", "zz", "x"):
            self.assertEqual(list(disk.paths(beginning)), sorted(path for path in twin.texts if path.startswith(beginning)))
        for path in PATHS:
            self.assertIs(path in disk, path in twin.texts)
        copy = disk.twin()
        self.assertEqual((copy.room, copy.acts, copy.used, copy == disk, copy is disk), (twin.room, 0, disk.used, True, False))

    def outcome(self, call):
        """What a call raises, or None."""
        try:
            self.assertIsNone(call())
        except (PowerCut, NoRoom, NoPath) as error:
            return type(error), list(vars(error).values())[0]

    def test_rows_of_acts(self):
        kinds = {PowerCut: 0, NoRoom: 0, NoPath: 0, None: 0}
        for seed in range(150):
            chance = random.Random(seed)
            room = chance.choice((None, None, 0, 1, 40, 430, 900))
            disk, twin = (Disk() if room is None else Disk(room)), Twin(room)
            for _ in range(60):
                path, text, deed = chance.choice(PATHS), chance.choice(TEXTS), chance.random()
                if deed < 0.55:
                    wanted, found = twin.write(path, text), self.outcome(lambda: disk.write(path, text))
                elif deed < 0.85:
                    wanted, found = twin.remove(path), self.outcome(lambda: disk.remove(path))
                elif deed < 0.93:
                    twin.left = chance.randint(0, 5)
                    wanted = found = self.assertIsNone(disk.cut_after(twin.left))
                else:
                    twin.left = None
                    wanted = found = self.assertIsNone(disk.power_on())
                self.assertEqual(found, wanted)
                kinds[wanted[0] if wanted else None] += 1
                if chance.random() < 0.2:
                    self.same(disk, twin)
            self.same(disk, twin)
        self.assertGreater(min(kinds.values()), 150)

    def test_room(self):
        disk = Disk(10)
        disk.write("a", "x" * 10)
        self.refused(NoRoom, 11, lambda: disk.write("b", "y"))
        self.refused(NoRoom, 11, lambda: disk.write("a", "y" * 11))
        disk.write("b", "")
        disk.write("a", "y" * 9)
        disk.write("b", "z")
        self.refused(NoRoom, 11, lambda: disk.write("b", "zz"))
        self.assertEqual((disk.used, disk.acts, disk.room, disk.text_at("a")), (10, 4, 10, "y" * 9))
        self.refused(NoRoom, 1, lambda: Disk(0).write("a", "x"))
        Disk(0).write("a", "")
        self.assertEqual(Disk(10 ** 49).room, 10 ** 49)

    def test_writing_the_same_text_is_an_act(self):
        disk = Disk()
        disk.write("a", "x")
        disk.write(text="x", path="a")
        self.assertEqual((disk.acts, disk.used), (2, 1))
        disk.cut_after(1)
        disk.write("a", "x")
        self.refused(PowerCut, 3, lambda: disk.write("a", "x"))
        self.refused(PowerCut, 3, lambda: disk.remove("a"))
        self.assertEqual(disk.acts, 3)

    def test_cuts(self):
        disk = Disk()
        disk.cut_after(0)
        self.refused(PowerCut, 0, lambda: disk.write("a", "x"))
        self.assertEqual((disk.acts, len(disk), list(disk.paths())), (0, 0, []))
        # A new cut takes the place of the old one, also while the power is off.
        disk.cut_after(2)
        disk.write("a", "x")
        disk.write("b", "x")
        self.refused(PowerCut, 2, lambda: disk.write("c", "x"))
        self.assertEqual([disk.text_at(path) for path in disk.paths()], ["x", "x"])
        disk.cut_after(number=1)
        disk.remove("a")
        self.refused(PowerCut, 3, lambda: disk.remove("b"))
        disk.power_on()
        disk.remove("b")
        disk.write("c", "y")
        disk.cut_after(5)
        disk.power_on()
        for _ in range(20):
            disk.write("c", "y")
        self.assertEqual(disk.acts, 25)
        # What is refused for another reason is no act, and does not use the power up.
        small = Disk(3)
        small.cut_after(1)
        self.refused(NoRoom, 4, lambda: small.write("a", "xxxx"))
        self.refused(NoPath, "a", lambda: small.remove("a"))
        small.write("a", "xxx")
        self.refused(PowerCut, 1, lambda: small.write("a", "xxxx"))

    def test_errors_in_their_order(self):
        disk = Disk(3)
        disk.write("a", "xxx")
        for power in (None, 0):
            if power is not None:
                disk.cut_after(power)
            for path in BAD_PATHS:
                for text in ("x", "x" * 9) + BAD_TEXTS[:3]:
                    self.refused(BadPath, path, lambda: disk.write(path, text))
                self.refused(NoPath, path, lambda: disk.remove(path))
                self.refused(NoPath, path, lambda: disk.text_at(path))
                self.assertIs(path in disk, False)
            for text in BAD_TEXTS:
                self.refused(BadText, text, lambda: disk.write("a", text))
                self.refused(BadText, text, lambda: disk.write(path="b", text=text))
            for path in ("b", "a/", "aa"):
                self.refused(NoPath, path, lambda: disk.remove(path))
                self.refused(NoPath, path, lambda: disk.text_at(path=path))
        self.refused(PowerCut, 1, lambda: disk.write("a", "x" * 9))
        self.refused(PowerCut, 1, lambda: disk.remove(path="a"))
        disk.power_on()
        self.refused(NoRoom, 9, lambda: disk.write("a", "x" * 9))
        self.assertEqual((disk.acts, disk.used, disk.text_at("a"), len(disk)), (1, 3, "xxx", 1))

    def test_counts(self):
        for thing in model.OTHERS[1:] + (-1, "5", (5,), 1.0, Likes()):
            self.refused(BadCount, thing, lambda: Disk(thing))
            self.refused(BadCount, thing, lambda: Disk(room=thing))
        disk = Disk(None)
        disk.cut_after(1)
        for thing in model.OTHERS + (-1, "5", Likes()):
            self.refused(BadCount, thing, lambda: disk.cut_after(thing))
        disk.write("a", "")
        self.refused(PowerCut, 1, lambda: disk.write("a", ""))

    def test_paths_and_texts(self):
        disk = Disk()
        text = "".join(chr(code) for code in range(32, 127) if code != 37) + "\n"
        for path in ("a", "/", "//", ".", "..", "-", "0", "a" * 80, "abcdefghijklmnopqrstuvwxyz0123456789.-/"):
            disk.write(path, text)
            self.assertEqual(disk.text_at(path), text)
        disk.write("long", "x" * 30000)
        self.assertEqual(disk.used, 9 * len(text) + 30000)
        self.assertEqual(list(disk.paths()), sorted(disk.paths()))
        self.assertEqual(list(disk.paths(beginning="a")), ["a", "a" * 80, "abcdefghijklmnopqrstuvwxyz0123456789.-/"])

    def test_twins_are_independent(self):
        disk = Disk(50)
        disk.write("a", "x")
        disk.cut_after(0)
        twin = disk.twin()
        twin.write("b", "y")
        twin.write("a", "yy")
        self.assertEqual((list(disk.paths()), disk.text_at("a"), disk.used, twin.used, twin.acts, twin.room), (["a"], "x", 1, 3, 2, 50))
        self.refused(NoRoom, 51, lambda: twin.write("c", "z" * 48))
        twin.cut_after(0)
        disk.power_on()
        disk.remove("a")
        self.assertEqual((len(disk), twin.text_at("a"), disk.acts), (0, "yy", 2))

    def test_equality(self):
        one, other = Disk(), Disk(5)
        self.assertIs(one == other, True)
        one.write("a", "x")
        self.assertIs(one == other, False)
        other.write("b", "x")
        self.assertIs(one == other, False)
        self.assertIs(one != other, True)
        other.remove("b")
        other.write("a", "y")
        self.assertIs(one == other, False)
        other.write("a", "x")
        other.cut_after(0)
        self.assertIs(one == other, True)
        for thing in model.OTHERS + (0, {"a": "x"}, Disk, Likes()):
            self.assertIs(one == thing, False)
            self.assertIs(thing in one, False)

    def test_disk_that_goes_on_while_its_paths_are_told(self):
        disk = Disk()
        for path in "abc":
            disk.write(path, "x")
        told = disk.paths()
        disk.write("aa", "x")
        self.assertEqual(next(told), "a")
        disk.remove("b")
        disk.write("d", "x")
        self.assertEqual(next(told), "aa")

    def test_class_has_its_methods_itself(self):
        for name in ("__init__", "write", "remove", "text_at", "paths", "room", "used", "acts", "cut_after", "power_on", "twin", "__contains__",
                     "__len__", "__eq__"):
            self.assertIn(name, vars(Disk))
        for name in ("room", "used", "acts"):
            self.assertIsInstance(vars(Disk)[name], property)
        self.assertEqual(Disk.__module__, "parcelindex.disks")


if __name__ == "__main__":
    unittest.main()
