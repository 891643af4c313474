"""Environments: their parts, their texts and their order."""

import itertools
import unittest

from model import OTHERS, neighbors
from parcelindex.environments import Environment
from parcelindex.errors import BadEnvironment

WORDS = ("a", "b", "z", "aa", "ab", "ba", "zz", "aaa", "north", "not", "system", "abcdefghijkl", "zzzzzzzzzzzz")
LEVELS = (0, 1, 2, 9, 10, 11, 50, 98, 99)
WRONG_WORDS = OTHERS + (0, 1, "", "A", "North", "abcdefghijklm", "a b", "a1", "a-b", " a", "a ", "\u00e9", ("a",), ["a"])
WRONG_LEVELS = OTHERS + (-1, 100, 101, 10 ** 49, -10 ** 49, "", "3", "a", (3,), [3])


class Likes:
    """An object that calls itself equal to everything."""

    def __eq__(self, other):
        return True


def key_of(environment):
    """Environments are ordered as these tuples are."""
    return (len(environment.system), environment.system, len(environment.machine), environment.machine,
            environment.level)


class EnvironmentTest(unittest.TestCase):
    def refused(self, given, **parts):
        with self.assertRaises(BadEnvironment) as held:
            Environment(**parts)
        self.assertIs(held.exception.given, given)

    def test_parts_and_text(self):
        for system, machine, level in itertools.product(WORDS, WORDS, LEVELS):
            found = Environment(system=system, machine=machine, level=level)
            self.assertEqual((found.system, found.machine, found.level), (system, machine, level))
            self.assertEqual(str(found), f"{system} {machine} {level}")
            self.assertEqual(Environment.read(str(found)), found)
        found = Environment.read(text="north big 3")
        self.assertEqual((found.system, found.machine, found.level), ("north", "big", 3))
        self.assertIs(type(found.level), int)

    def test_defaults(self):
        self.assertEqual(str(Environment()), "a a 0")
        self.assertEqual(str(Environment(machine="big")), "a big 0")
        self.assertEqual(str(Environment(level=7)), "a a 7")
        self.assertEqual(str(Environment(system="north")), "north a 0")

    def test_by_name_only(self):
        for parts in (("a",), ("a", "a"), ("a", "a", 0)):
            with self.assertRaises(TypeError):
                Environment(*parts)

    def test_first_wrong_part(self):
        for wrong in WRONG_WORDS:
            self.refused(wrong, system=wrong)
            self.refused(wrong, machine=wrong)
            self.refused(wrong, system=wrong, machine="B", level=-1)
            self.refused(wrong, level=100, machine=wrong, system="a")
        for wrong in WRONG_LEVELS:
            self.refused(wrong, level=wrong)
            self.refused(wrong, system="north", machine="abcdefghijkl", level=wrong)
            self.refused("", system="", machine=wrong, level=wrong)
            self.refused("A", system="a", machine="A", level=wrong)
        for level in range(-5, 110):
            if 0 <= level <= 99:
                self.assertEqual(Environment(level=level).level, level)
            else:
                self.refused(level, level=level)

    def test_order_and_equality(self):
        words = ("a", "b", "z", "aa", "ab", "ba", "aaa", "north")
        made = [Environment(system=system, machine=machine, level=level)
                for system, machine, level in itertools.product(words, ("a", "z", "aa", "north"), (0, 2, 10))]
        for one, other in itertools.product(made, repeat=2):
            self.assertIs(one < other, key_of(one) < key_of(other))
            self.assertIs(one > other, key_of(one) > key_of(other))
            self.assertIs(one == other, key_of(one) == key_of(other))
            self.assertIs(one != other, key_of(one) != key_of(other))
        self.assertEqual([str(one) for one in sorted(reversed(made))], [str(one) for one in sorted(made, key=key_of)])
        self.assertEqual(Environment(system="north"), Environment.read("north a 0"))

    def test_words_by_length_then_by_the_alphabet(self):
        rows = ("a", "b", "y", "z", "aa", "ab", "az", "ba", "zz", "aaa", "zzz", "aaaa", "zzzzzzzzzzzz")
        for one, other in itertools.combinations(rows, 2):
            self.assertTrue(Environment(system=one, machine="zz", level=99) < Environment(system=other))
            self.assertTrue(Environment(machine=one, level=99) < Environment(machine=other))
            self.assertFalse(Environment(system=other) < Environment(system=one, machine="zz"))

    def test_equal_to_no_other_object(self):
        for thing in OTHERS + (0, "a a 0", ("a", "a", 0), Likes(), Environment):
            self.assertIs(Environment() == thing, False)
            self.assertIs(Environment() != thing, True)


class ReadingTest(unittest.TestCase):
    def check(self, text):
        parts = text.split(" ")
        good = len(parts) == 3 and all(part.isascii() and part.isalpha() and part.islower() and len(part) <= 12
                                       for part in parts[:2]) and parts[2] in [str(level) for level in range(100)]
        if good:
            self.assertEqual(str(Environment.read(text)), text)
            return
        with self.assertRaises(BadEnvironment) as held:
            Environment.read(text)
        self.assertIs(held.exception.given, text)

    def test_wrong_texts(self):
        for text in ("", " ", "a", "a a", "a a ", " a 0", "a  0", "a a 0 ", " a a 0", "a a  0", "a  a 0", "a a 00", "a a 03",
                     "a a 100", "a a -1", "a a +1", "a a 1.0", "a a x", "A a 0", "a A 0", "a a 0\n", "a\na 0", "a a\t0",
                     "a a 0 0", "a a \u0663", "a a \u00b2", "\u00e9 a 0", "a1 a 0", "abcdefghijklm a 0", "a a 1_0",
                     "a abcdefghijklm 0", "a a 9" + "9" * 5000, "a a " + "0" * 5000, "a" * 20000, " " * 20000):
            self.check(text)
            with self.assertRaises(BadEnvironment):
                Environment.read(text)

    def test_texts_with_one_change(self):
        for text in ("north big 3", "a a 0", "b zz 99"):
            for other in neighbors(text, "az09 -A\n"):
                self.check(other)

    def test_other_objects(self):
        for thing in OTHERS + (0, 3, Environment(), ("a", "a", 0)):
            with self.assertRaises(BadEnvironment) as held:
                Environment.read(thing)
            self.assertIs(held.exception.given, thing)

    def test_class_has_its_methods_itself(self):
        for name in ("system", "machine", "level", "read", "__init__", "__eq__", "__lt__", "__str__"):
            self.assertIn(name, vars(Environment))
        self.assertEqual(Environment.__module__, "parcelindex.environments")
        self.assertIsInstance(vars(Environment)["read"], staticmethod)
        for name in ("system", "machine", "level"):
            self.assertIsInstance(vars(Environment)[name], property)


if __name__ == "__main__":
    unittest.main()
