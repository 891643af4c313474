"""Markers: their texts, their answers, and what compares and joins them."""

import itertools
import random
import unittest

import marker_model
import model
from parcelindex.environments import Environment
from parcelindex.errors import BadEnvironment, BadMarker
from parcelindex.markers import Marker, apart, cells, together

GOOD = ("always", "never", "system == north", "machine != big", "level == 0", "level != 99", "level < 3", "level <= 3",
        "level > 3", "level >= 10", "system == not", "system != and", "machine == or", "system == always",
        "machine != never", "system == system", "machine == level", "system == machine", "not always", "not not always",
        "not not not system == not", "always and never", "always or never", "always and never or always",
        "always or never and always", "not always and never", "not always or never", "not (always and never)",
        "not (always or never)", "(always or never) and always", "always and (always or never)",
        "(level < 3 or level > 5) and (system == a or machine == b)", "not (not (always or never) and always)",
        "not not (always or never)", "system == abcdefghijkl", "level < 3 and level > 1 and level == 2",
        "level < 3 or level > 1 or level == 2", "always and (not never or always) and not (always and never)")
# Each text stands beside the one that the marker gives.
WRITTEN = (("not(system==north)or level<3", "not system == north or level < 3"),
           ("((always))", "always"), ("( always )", "always"), ("not(always)", "not always"),
           ("not((always)or(never))", "not (always or never)"), ("always  and   never", "always and never"),
           ("(always and never) and always", "always and never and always"),
           ("always and (never and always)", "always and never and always"),
           ("(always or never) or always", "always or never or always"),
           ("always or (never or always)", "always or never or always"),
           ("(always and never) or always", "always and never or always"),
           ("always or (never and always)", "always or never and always"),
           ("((always or never)) and (always)", "(always or never) and always"),
           ("not (not always)", "not not always"), ("not not(always and(never))", "not not (always and never)"),
           ("(not always) and never", "not always and never"), ("not (always) and (not (never))", "not always and not never"),
           ("system==not and not machine!=and", "system == not and not machine != and"),
           ("level<=3", "level <= 3"), ("level  <=  3", "level <= 3"), ("system  ==north", "system == north"),
           ("system== north", "system == north"), ("(level<3)and(level>1)", "level < 3 and level > 1"),
           ("not(not(not(always or never)and always))", "not not (not (always or never) and always)"))
WRONG = ("", " ", "()", "( )", "(", ")", ")(", "north", "not", "and", "or", "system", "level", "==", "system ==", "== north",
         " always", "always ", "always\n", "\nalways", "\talways", "always\tand never", "always\nand never", "Always",
         "alway", "alwayss", "always never", "always not never", "always and", "and always", "or always", "always or",
         "always and and never", "always or or never", "always and or never", "not and always", "always not",
         "not not", "always()", "()always", "(always", "always)", "(always))", "((always)", "always (never)",
         "(always) never", "(always)(never)", "always) or (never", ") or (", "notalways", "not always andnever",
         "always and notnever", "alwaysand never", "level < 3and always", "level<3or level>5", "3 < level", "level < level",
         "level = 3", "level =< 3", "level => 3", "level <> 3", "level < = 3", "level = = 3", "level ! = 3", "level === 3",
         "level <== 3", "level !== 3", "level < 03", "level < 00", "level == 100", "level == 999", "level == -1",
         "level == +1", "level == 1.0", "level == 1_0", "level < 3a", "level < a", "level <", "level < 3 5", "level",
         "level < (3)", "(level) < 3", "level (< 3)", "level < \u0663", "level < \u00b2", "system < north", "system <= north",
         "system > north", "machine >= big", "system = north", "system == 3", "system == north1", "system == n-orth",
         "system == North", "system == abcdefghijklm", "system == (north)", "system == 'north'", "system north",
         "system == north south", "system == north == south", "system == \u00e9", "System == north", "systems == north",
         "sys == north", "system == north, machine == big", "system == north && always", "system == north | always",
         "!always", "not(", "not)", "not()", "not (and)", "always;never", "always.", "always#", "0", "1", "true", "True",
         "system == north\0", "\ud800", "always\u00a0and never", "level == 1" + "0" * 5000, "level == 0" + "0" * 5000,
         "system == " + "a" * 5000, "level < " + "9" * 19000)
TOKENS = ("always", "never", "not", "and", "or", "(", ")", "system == a", "level < 3", "system", "==", "3")


def environment_of(place):
    system, machine, level = place
    return Environment(system=system, machine=machine, level=level)


def place_of(environment):
    return None if environment is None else (environment.system, environment.machine, environment.level)


def made_text(chance, depth=3):
    """A marker text with few words and levels, so that markers answer alike now and then."""
    kind = chance.randint(0, 9) if depth else 0
    if kind < 5:
        return chance.choice(("always", "never", f"system {chance.choice(('==', '!='))} {chance.choice(('a', 'b', 'd'))}",
                              f"machine {chance.choice(('==', '!='))} {chance.choice(('a', 'c', 'not'))}",
                              f"level {chance.choice(('==', '!=', '<', '<=', '>', '>='))} {chance.choice((0, 3, 4, 98, 99))}"))
    if kind == 5:
        return f"not ({made_text(chance, depth - 1)})"
    word = "and" if kind < 8 else "or"
    return f"({made_text(chance, depth - 1)}) {word} ({made_text(chance, depth - 1)})"


class ReadingTest(unittest.TestCase):
    def check(self, text):
        if marker_model.read(text) is None:
            with self.assertRaises(BadMarker) as held:
                Marker(text)
            self.assertIs(held.exception.given, text)
            return
        found = Marker(text)
        self.assertEqual(str(found), marker_model.text_of(text), text)
        self.assertEqual(str(Marker(str(found))), str(found))

    def test_good_texts(self):
        for text in GOOD:
            self.assertEqual(str(Marker(text)), text)
            self.assertEqual(str(Marker(text=text)), text)
            self.check(text)

    def test_written_texts(self):
        for text, wanted in WRITTEN:
            self.assertEqual(str(Marker(text)), wanted)
            self.assertEqual(str(Marker(wanted)), wanted)
            self.check(text)

    def test_wrong_texts(self):
        for text in WRONG:
            self.assertIsNone(marker_model.read(text), text)
            self.check(text)

    def test_default_is_always(self):
        self.assertEqual(str(Marker()), "always")

    def test_needless_spaces_and_none(self):
        for text in GOOD:
            self.assertEqual(str(Marker(text.replace(" ", "   "))), text)
            packed = text
            for sign in ("==", "!=", "<=", ">=", "<", ">"):
                packed = packed.replace(f" {sign} ", sign)
            packed = packed.replace(" (", "(").replace(") ", ")")
            self.assertEqual(str(Marker(packed)), text)
            self.assertEqual(str(Marker(packed.replace("(", " ( ").replace(")", " ) ").strip())), text)
            self.assertEqual(str(Marker(f"(({text}))")), text)

    def test_texts_with_one_change(self):
        for text in ("always", "not never", "system == not", "level <= 30", "(always or never) and level < 3",
                     "not (machine != or)"):
            for other in model.neighbors(text, "adw019 =!<>()\n"):
                self.check(other)

    def test_tokens_put_in_left_out_and_exchanged(self):
        for text in ("not ( always or system == a ) and never", "level < 3 or not ( level >= 5 )"):
            row = text.split(" ")
            for at in range(len(row) + 1):
                for token in TOKENS:
                    self.check(" ".join(row[:at] + [token] + row[at:]))
                    self.check(" ".join(row[:at] + [token] + row[at + 1:]))
                self.check(" ".join(row[:at] + row[at + 1:]))
                self.check(" ".join(row[:at] + row[at + 1:at + 2] + row[at:at + 1] + row[at + 2:]))
                self.check("".join(row[:at]) + " ".join(row[at:]))

    def test_all_short_rows_of_tokens(self):
        for many in range(1, 5):
            for row in itertools.product(("always", "not", "and", "or", "(", ")"), repeat=many):
                self.check(" ".join(row))
                self.check("".join(row))

    def test_many_rows_of_tokens(self):
        chance = random.Random(3)
        for _ in range(4000):
            self.check(" ".join(chance.choice(TOKENS) for _ in range(chance.randint(1, 9))))
            self.check(chance.choice((" ", "")).join(chance.choice(TOKENS[:9]) for _ in range(chance.randint(3, 7))))

    def test_many_made_texts(self):
        chance = random.Random(4)
        for _ in range(600):
            self.check(made_text(chance))

    def test_all_levels(self):
        for number in range(-1, 1002):
            self.check(f"level == {number}")
            self.check(f"level < 0{number}")

    def test_long_texts(self):
        for text in (" and ".join(["level < 3"] * 500), " or ".join(["(always)"] * 900), "(" * 8 + "always" + ")" * 8,
                     "not " * 10 + "always"):
            self.check(text)
        for text in ("(" * 20000, ")" * 20000, "=" * 20000, "a" * 20000, "not" * 6000, "always " * 2000):
            with self.assertRaises(BadMarker) as held:
                Marker(text)
            self.assertIs(held.exception.given, text)
        self.assertEqual(str(Marker("not " * 4000 + "always")), "not " * 4000 + "always")

    def test_other_objects(self):
        for thing in model.OTHERS + (0, 1, [], (), Marker(), Environment(), ("always",)):
            with self.assertRaises(BadMarker) as held:
                Marker(thing)
            self.assertIs(held.exception.given, thing)


class AnswersTest(unittest.TestCase):
    def check(self, marker, text):
        asked = marker_model.asker(text)
        for system, machine, level in itertools.product(("a", "b", "d", "north", "not", "system"), ("a", "c", "and", "big"),
                                                        (0, 1, 2, 3, 4, 5, 9, 10, 11, 98, 99)):
            environment = Environment(system=system, machine=machine, level=level)
            self.assertIs(marker(environment), asked(system, machine, level), text)

    def test_good_texts(self):
        for text in GOOD + tuple(text for text, _ in WRITTEN):
            self.check(Marker(text), text)
            self.check(Marker(str(Marker(text))), text)

    def test_many_made_texts(self):
        chance = random.Random(5)
        for _ in range(150):
            text = made_text(chance)
            self.check(Marker(text), text)

    def test_by_name_and_wrong_objects(self):
        marker = Marker("level < 3")
        self.assertIs(marker(environment=Environment()), True)
        self.assertIs(marker(Environment(level=3)), False)
        for thing in model.OTHERS + (0, "a a 0", ("a", "a", 0), marker, Environment):
            with self.assertRaises(BadEnvironment) as held:
                marker(thing)
            self.assertIs(held.exception.given, thing)

    def test_not_and_or(self):
        for one in GOOD:
            self.assertEqual(str(-Marker(one)), marker_model.text_of(f"not ({one})"))
            self.check(-Marker(one), f"not ({one})")
        for one, other in itertools.product(GOOD[::3] + ("not always and never", "always or never"), GOOD[::4]):
            for found, text in ((Marker(one) & Marker(other), f"({one}) and ({other})"),
                                (Marker(one) | Marker(other), f"({one}) or ({other})")):
                self.assertEqual(str(found), marker_model.text_of(text))
                self.assertEqual(str(Marker(str(found))), str(found))
                self.assertIs(type(found), Marker)
        for one, other in itertools.product(GOOD[2:30:5], GOOD[3:30:4]):
            self.check(Marker(one) & Marker(other), f"({one}) and ({other})")
            self.check(Marker(one) | Marker(other), f"({one}) or ({other})")

    def test_joined_texts_written_out(self):
        north, low, big = Marker("system == north"), Marker("level < 3"), Marker("machine == big")
        self.assertEqual(str(-north), "not system == north")
        self.assertEqual(str(--north), "not not system == north")
        self.assertEqual(str(north & low), "system == north and level < 3")
        self.assertEqual(str(north | low), "system == north or level < 3")
        self.assertEqual(str(-(north | low)), "not (system == north or level < 3)")
        self.assertEqual(str(-(north & low)), "not (system == north and level < 3)")
        self.assertEqual(str((north | low) & big), "(system == north or level < 3) and machine == big")
        self.assertEqual(str(big & (north | low)), "machine == big and (system == north or level < 3)")
        self.assertEqual(str((north & low) | big), "system == north and level < 3 or machine == big")
        self.assertEqual(str(north & (low & big)), "system == north and level < 3 and machine == big")
        self.assertEqual(str(north | (low | big)), "system == north or level < 3 or machine == big")
        self.assertEqual(str(-north & low), "not system == north and level < 3")
        self.assertEqual([str(one) for one in (north, low, big)], ["system == north", "level < 3", "machine == big"])


class ComparingTest(unittest.TestCase):
    def rows(self, texts):
        """All environments that can differ, ascending, with the answers there."""
        words = [word for text in texts for word in marker_model.mentioned(text)]
        askers = [marker_model.asker(text) for text in texts]
        return [(place, tuple(asked(*place) for asked in askers)) for place in marker_model.places(words)]

    def check_two(self, one, other):
        rows = self.rows((one, other))
        mine, its = Marker(one), Marker(other)
        first = next((place for place, answers in rows if answers[0] != answers[1]), None)
        self.assertEqual(place_of(apart(mine, its)), first, (one, other))
        self.assertEqual(place_of(apart(other=its, one=mine)), first)
        self.assertIs(mine == its, first is None, (one, other))
        self.assertIs(mine != its, first is not None)
        self.assertIs(mine <= its, all(answers != (True, False) for _, answers in rows), (one, other))
        self.check_many((one, other), rows)

    def check_many(self, texts, rows=None):
        rows = rows or self.rows(texts)
        markers = tuple(Marker(text) for text in texts)
        first = next((place for place, answers in rows if all(answers)), None)
        self.assertEqual(place_of(together(markers)), first, texts)
        self.assertEqual(place_of(together(markers=markers)), first, texts)
        seen = {}
        for place, answers in rows:
            seen.setdefault(answers, place)
        self.assertEqual([place_of(one) for one in cells(markers)], list(seen.values()), texts)
        self.assertEqual([place_of(one) for one in cells(markers=markers)], list(seen.values()), texts)

    def test_written_out(self):
        for one, other, equal in (("always", "not never", True), ("always", "level >= 0", True),
                                  ("never", "level < 0", True),
                                  ("level <= 99", "always", True), ("level > 99", "never", True),
                                  ("level < 3", "level <= 2", True), ("level < 3", "not level >= 3", True),
                                  ("system == a or system != a", "always", True), ("system == a", "not system != a", True),
                                  ("system == a and system == b", "never", True), ("system == a", "system == b", False),
                                  ("system == a", "machine == a", False), ("system != a or system != b", "always", True),
                                  ("system == a and machine == b", "machine == b and system == a", True),
                                  ("level == 1 or level == 2", "level > 0 and level < 3", True),
                                  ("level != 99", "level < 99", True), ("level != 98", "level < 98", False),
                                  ("system == z", "never", False), ("system != zzzzzzzzzzzz", "always", False)):
            self.assertIs(Marker(one) == Marker(other), equal, (one, other))
            self.check_two(one, other)
        self.assertEqual(str(apart(Marker("system == north"), Marker("never"))), "north a 0")
        self.assertEqual(str(apart(Marker("system != a"), Marker("never"))), "b a 0")
        self.assertEqual(str(apart(Marker("system != a and machine != a and level > 98"), Marker("never"))), "b b 99")
        self.assertEqual(str(together((Marker("system != b"), Marker("system != a"), Marker("level != 0")))), "c a 1")
        self.assertIsNone(apart(Marker(), Marker("not never")))
        self.assertIsNone(together((Marker("level < 3"), Marker("level > 3"))))
        self.assertEqual([str(one) for one in cells((Marker("level < 3"), Marker("system == b")))],
                         ["a a 0", "a a 3", "b a 0", "b a 3"])

    def test_none_and_one(self):
        self.check_many(())
        self.assertEqual(str(together(())), "a a 0")
        self.assertEqual([str(one) for one in cells(())], ["a a 0"])
        for text in GOOD:
            self.check_many((text,))
            self.assertIs(bool(Marker(text)), any(answers[0] for _, answers in self.rows((text,))))

    def test_good_texts_against_one_another(self):
        for one, other in itertools.product(GOOD[:12], GOOD[::2]):
            self.check_two(one, other)

    def test_many_made_texts(self):
        chance = random.Random(6)
        for _ in range(120):
            one, other = made_text(chance), made_text(chance)
            self.check_two(one, other)
            self.check_two(one, f"not not ({one})")
            self.check_two(one, f"({one}) and ({other})")
        for _ in range(60):
            self.check_many(tuple(made_text(chance, 2) for _ in range(4)))

    def test_first_words_that_are_mentioned(self):
        for word in ("a", "b", "c", "z", "aa", "ab"):
            self.check_two(f"system == {word}", "never")
            self.check_two(f"machine != {word}", "always")
            self.check_two(f"system != a and system != b and system != {word}", "never")
        letters = " and ".join(f"system != {letter}" for letter in marker_model.LETTERS[:11])
        self.assertEqual(str(together((Marker(letters),))), "l a 0")
        self.assertEqual([str(one) for one in cells((Marker(letters),))], ["a a 0", "l a 0"])

    def test_all_levels(self):
        for sign, level in itertools.product(("==", "!=", "<", "<=", ">", ">="), range(100)):
            text = f"level {sign} {level}"
            holds = [at for at in range(100) if marker_model.asker(text)("a", "a", at)]
            wanted = sorted({holds[0]} if holds else set())
            self.assertEqual([together((Marker(text),)).level] if holds else [], wanted)
            self.assertIs(bool(Marker(text)), bool(holds))
            self.assertIs(Marker(text) == Marker("always"), len(holds) == 100)
            others = [at for at in range(100) if at not in holds]
            firsts = sorted(row[0] for row in (holds, others) if row)
            self.assertEqual([one.level for one in cells((Marker(text),))], firsts)

    def test_wrong_objects(self):
        one = Marker()
        for thing in model.OTHERS + (0, "always", [one], (one,), Environment(), Marker):
            for call in (lambda: apart(thing, one), lambda: apart(one, thing), lambda: apart(thing, object()),
                         lambda: together((one, thing)), lambda: together((thing, object())),
                         lambda: list(cells((one, thing))), lambda: list(cells((thing, one, None)))):
                with self.assertRaises(BadMarker) as held:
                    call()
                self.assertIs(held.exception.given, thing)
            if not isinstance(thing, tuple):
                for call in (lambda: together(thing), lambda: list(cells(thing))):
                    with self.assertRaises(BadMarker) as held:
                        call()
                    self.assertIs(held.exception.given, thing)

    def test_cells_raises_at_the_first_request(self):
        row = cells(None)
        self.assertTrue(hasattr(row, "__next__"))
        with self.assertRaises(BadMarker):
            next(row)
        row = cells((Marker("level < 3"),))
        self.assertEqual([str(next(row)), str(next(row))], ["a a 0", "a a 3"])
        with self.assertRaises(StopIteration):
            next(row)

    def test_equal_to_no_other_object(self):
        class Likes:
            def __eq__(self, other):
                return True

        for thing in model.OTHERS + ("always", 0, (), Environment(), Marker, Likes()):
            self.assertIs(Marker() == thing, False)
            self.assertIs(Marker() != thing, True)

    def test_example(self):
        marker = Marker("not(system==north) or level<3")
        found = [str(marker), str(apart(marker, Marker("always"))), [str(one) for one in cells((Marker("level < 3"),))]]
        self.assertEqual(found, ["not system == north or level < 3", "north a 3", ["a a 0", "a a 3"]])

    def test_class_has_its_methods_itself(self):
        for name in ("__init__", "__call__", "__and__", "__or__", "__neg__", "__eq__", "__le__", "__bool__", "__str__"):
            self.assertIn(name, vars(Marker))
        for thing in (Marker, apart, together, cells):
            self.assertEqual(thing.__module__, "parcelindex.markers")


if __name__ == "__main__":
    unittest.main()
