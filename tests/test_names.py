"""Names, words and paths, for any object."""

import itertools
import re
import unittest

from model import OTHERS
from parcelindex.names import is_name, is_path, is_word

FORMS = ((is_name, "[a-z][a-z0-9-]{0,19}"), (is_word, "[a-z]{1,12}"), (is_path, "[a-z0-9./-]{1,60}"))
SIGNS = "az09-./AZ_ \n\t\0@[`{:+,%\\~\u00df\u00e9\u0661\u00b2\uff41\uff11\u212a\u0131\ud800\U0001d7d8"


class NamesTest(unittest.TestCase):
    def check(self, thing):
        for ask, form in FORMS:
            wanted = isinstance(thing, str) and re.fullmatch(form, thing) is not None
            self.assertIs(ask(thing), wanted, (ask, thing))
            self.assertIs(ask(thing=thing), wanted, (ask, thing))

    def test_ordinary(self):
        self.assertEqual([is_name(text) for text in ("tea", "a", "green-tea2", "t-", "t--1")], [True] * 5)
        self.assertEqual([is_name(text) for text in ("", "-tea", "2tea", "Tea", "te.a", "te/a")], [False] * 6)
        self.assertEqual([is_word(text) for text in ("a", "north", "not", "abcdefghijkl")], [True] * 4)
        self.assertEqual([is_word(text) for text in ("", "a1", "a-b", "North", "abcdefghijklm")], [False] * 5)
        self.assertEqual([is_path(text) for text in ("a", "a/b", "/", "..", "-", "0", "a//b.txt")], [True] * 7)
        self.assertEqual([is_path(text) for text in ("", "A", "a b", "a_b", "a\\b", "a\n")], [False] * 6)

    def test_short_strings_of_all_signs(self):
        for many in range(4):
            for row in itertools.product(SIGNS, repeat=many):
                self.check("".join(row))

    def test_all_single_characters(self):
        for code in itertools.chain(range(0x3000), range(0xd7f0, 0xd810), range(0xfe00, 0x10100)):
            self.check(chr(code))
            self.check("a" + chr(code))

    def test_lengths(self):
        for many in itertools.chain(range(65), range(78, 84), (1000, 20000, 100000)):
            for sign in "a0-./A":
                self.check(sign * many)
                self.check("a" + sign * many)
                self.check("a" * many + sign)
        self.assertEqual([is_name("a" * 20), is_name("a" * 21)], [True, False])
        self.assertEqual([is_word("a" * 12), is_word("a" * 13)], [True, False])
        self.assertEqual([is_path("a" * 60), is_path("a" * 61)], [True, False])

    def test_wrong_sign_at_every_place(self):
        for most in (12, 20, 60):
            for at in range(most):
                for sign in SIGNS:
                    self.check("a" * at + sign + "a" * (most - at - 1))

    def test_other_objects(self):
        for thing in OTHERS + (0, 1, "tea".encode(), ["t", "e"], ("t",), {"t": 1}, [], (), {}, set(), is_name):
            self.check(thing)


if __name__ == "__main__":
    unittest.main()
