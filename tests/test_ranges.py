"""Ranges: their texts and runs, what sets can do, and the normal text."""

import itertools
import random
import unittest

import model
from parcelindex.errors import BadRange, BadVersion
from parcelindex.ranges import Range
from parcelindex.versions import Version

SIGNS = ("==", "!=", "<", "<=", ">", ">=", "~=")
VERSIONS = ("0a0", "0", "0.0", "1", "1.4", "1.4.0", "1.4.5", "1.4.0.7", "1.2rc3", "2a0", "2.0.0.1a0", "2rc999",
            "999", "999.999", "999.999.999", "999.999.999.999", "999.999.999.999rc999", "998.999.999.999", "1.0rc0")
GOOD = ("*", "none", ">=1,<2", "<1|>2", "==1|==2", "==1,==2", "!=1,!=2", "~=1.4", "~=1.4.0", "~=1.4.0.7", "~=1.4,!=1.5",
        "<2|>=2", ">=1,<1.0.0.1a0", ">1,<1.0.0.1a0", "<1,>2", "<1,>2|==3", "==1|==1.0.0.1a0", "==1,>=0.5,<=2,!=1.5",
        "<1|<2|<3", "<3|<2|<1", ">3|==3", "<0a0", ">999.999.999.999", "<=0a0", ">=0a0", "<=999.999.999.999",
        "!=0a0", "!=999.999.999.999", "!=0a0,!=999.999.999.999", "==0a0|==999.999.999.999", ">=2,<3|>=1,<2",
        ">=1,<3|>=2,<4", "~=0.0", "~=999.0", "~=999.999.999.999", ">=1rc5,<1rc6", ">=1rc5", "<=2rc999", "<2", ">2",
        "<2a0", "<=2a0", ">=2a0", ">2a0", ">1.4|<=1.4", "==1.0|==1.0.0", "~=1.0|~=2.0", "~=1.0|~=3.0")
WRONG = ("", " ", ",", "|", "==", "1", "1.2", "=1", "===1", "=<1", "=>1", "<>1", "<<1", "><1", "~1", "!1", "=!1", "=~1.2",
         "~=1", "~=1a1", "~=1.4rc1", "~=1.2.3.4a1", "~=1.2.3.4.5", "==1.2.3.4.5", "==1000", "==01", "==a1", "==1a",
         "==*", "==none", "==1,", ",==1", "==1,,==2", "==1|", "|==1", "==1||==2", "==1,|==2", "==1|,==2", "**", "*|*",
         "*,*", "*|==1", "==1|*", "*,==1", "==1,*", "none|none", "none,==1", "==1|none", "none|*", "*none", "None",
         "NONE", "nonee", "no", "none ", " none", "* ", " *", "all", " ==1", "==1 ", "== 1", "= =1", "==1 ,==2",
         "==1, ==2", "==1 |==2", "==1| ==2", "==1\n", "\n==1", "==1;==2", "==1&==2", "==1/==2", "==1==2", "==1<2",
         "<=>1", "<==1", ">==1", "!==1", "~==1.2", "(==1)", "\u2265" + "1", "==\u0661", "==1\0", "\ud800", ">=1.*", "^1")
MANY = "1" + "0" * 5000
FIRST, LAST = Version.at(0), Version.at(Version.LAST)


def of_ranks(ranks):
    """The range with exactly these ranks, made of single versions."""
    made = Range("none")
    for rank in ranks:
        made = made | Range.between(Version.at(rank), Version.at(rank))
    return made


def runs_of_ranks(ranks):
    runs = []
    for rank in sorted(ranks):
        if runs and runs[-1][1] == rank - 1:
            runs[-1][1] = rank
        else:
            runs.append([rank, rank])
    return tuple((first, last) for first, last in runs)


class ReadingTest(unittest.TestCase):
    def check(self, text):
        if not model.is_range_text(text):
            with self.assertRaises(BadRange) as held:
                Range(text)
            self.assertIs(held.exception.given, text)
            return
        found = Range(text)
        self.assertEqual(found.runs, model.runs_of(text), text)
        self.assertEqual(str(found), model.normal_text(found.runs), text)
        self.assertEqual(Range(str(found)), found)

    def test_each_comparison(self):
        for sign, version in itertools.product(SIGNS, VERSIONS):
            self.check(sign + version)

    def test_good_texts(self):
        for text in GOOD:
            self.assertTrue(model.is_range_text(text), text)
            self.check(text)
            self.assertEqual(Range(text=text), Range(text))

    def test_wrong_texts(self):
        for text in WRONG:
            self.assertFalse(model.is_range_text(text), text)
            self.check(text)

    def test_two_comparisons(self):
        parts = [sign + version for sign in SIGNS for version in ("0a0", "1", "1.0.0.1a0", "1.4", "2", "999.999.999.999")]
        for one, other in itertools.product(parts, repeat=2):
            self.check(one + "," + other)
            self.check(one + "|" + other)

    def test_texts_with_one_change(self):
        for text in ("*", "none", ">=1,<2", "<1|>2", "~=1.4", "!=1.4rc5", "==1.0.3a1|<=2", "<1.10,!=0.9|>20"):
            for other in model.neighbors(text, "=!<>~,|*. 01ar\n"):
                self.check(other)

    def test_parts_exchanged(self):
        for parts in ((">=", "1", ",", "<", "2"), ("~=", "1.4", "|", "==", "3", ",", "!=", "1"), ("*", "|", "==", "1")):
            for one, other in itertools.combinations(range(len(parts)), 2):
                row = list(parts)
                row[one], row[other] = row[other], row[one]
                self.check("".join(row))

    def test_all_short_texts(self):
        for many in range(6):
            for row in itertools.product("=<!~1,|*.", repeat=many):
                self.check("".join(row))

    def test_many_made_texts(self):
        chance = random.Random(1)
        for _ in range(1500):
            sides = []
            for _ in range(chance.randint(1, 4)):
                parts = [chance.choice(SIGNS) + chance.choice(VERSIONS) for _ in range(chance.randint(1, 3))]
                sides.append(",".join(parts))
            self.check("|".join(sides))

    def test_alike(self):
        for text, first, last in (("~=1.4", "1.4", "1.999.999.999"), ("~=1.0", "1", "1.999.999.999"),
                                  ("~=1.4.5", "1.4.5", "1.4.999.999"), ("~=1.4.0", "1.4", "1.4.999.999"),
                                  ("~=1.4.0.7", "1.4.0.7", "1.4.0.999"), ("~=999.5", "999.5", "999.999.999.999")):
            self.assertEqual(Range(text).runs, ((Version(first).rank, Version(last).rank),))
        self.assertNotIn(Version("2a0"), Range("~=1.4"))
        self.assertNotIn(Version("1.4rc999"), Range("~=1.4"))
        self.assertIn(Version("1.5a0"), Range("~=1.4"))
        for text in ("~=1", "~=1a1", "~=1.4a1", "~=1.4.0rc1", "~=1.2.3.4.5"):
            with self.assertRaises(BadRange):
                Range(text)

    def test_default_is_every_version(self):
        self.assertEqual(Range(), Range("*"))
        self.assertEqual(Range().runs, ((0, Version.LAST),))
        self.assertEqual(Range("none").runs, ())

    def test_thousands_of_digits_and_parts(self):
        for text in ("==" + MANY, "~=1." + MANY, "==1|==" + MANY, "==1,<" + MANY, "==1a" + MANY, MANY, "=" * 20000,
                     "," * 20000, "|" * 20000, "==1|" * 5000, "==1," * 5000, "*" * 20000):
            self.check(text)
        row = [f"{at // 1000}.{at % 1000}" for at in range(4000)]
        many = Range("|".join("==" + text for text in row))
        self.assertEqual(many.runs, tuple((model.rank_of(text),) * 2 for text in row))
        self.assertEqual(Range(",".join("!=" + text for text in row)), many.others())
        self.assertEqual(Range("|".join("==" + text for text in reversed(row))), many)
        self.assertEqual(Range(str(many)), many)

    def test_other_objects(self):
        for thing in model.OTHERS + (1, 0, [], (), Version("1"), Range("==1"), ("==1",), 10 ** 6000):
            with self.assertRaises(BadRange) as held:
                Range(thing)
            self.assertIs(held.exception.given, thing)
            with self.assertRaises(BadRange) as held:
                Range(text=thing)
            self.assertIs(held.exception.given, thing)


class ContainsTest(unittest.TestCase):
    def test_at_the_bounds_and_beside_them(self):
        for text in GOOD:
            found = Range(text)
            for rank in model.probes(text):
                self.assertIs(Version.at(rank) in found, model.has(text, rank), (text, rank))

    def test_no_versions(self):
        for text in ("*", "none", "==1", "<2"):
            for thing in model.OTHERS + ("1", 1, 0, Range("==1"), Version("1").rank, Version, (1, 0, 0, 0)):
                self.assertIs(thing in Range(text), False)


class BetweenTest(unittest.TestCase):
    def test_both_orders_and_one_version(self):
        made = [Version(text) for text in VERSIONS] + [FIRST, LAST]
        for first, last in itertools.product(made, repeat=2):
            found = Range.between(first, last)
            wanted = ((first.rank, last.rank),) if first <= last else ()
            self.assertEqual(found.runs, wanted)
            self.assertIs(type(found), Range)
            self.assertEqual(Range.between(last=last, first=first), found)
        self.assertEqual(Range.between(FIRST, LAST), Range("*"))
        self.assertEqual(Range.between(LAST, FIRST), Range("none"))
        self.assertEqual(Range.between(Version("1"), Version("2")), Range(">=1,<=2"))
        self.assertEqual(Range.between(Version("1"), Version("1.0")), Range("==1"))

    def test_wrong_objects(self):
        one = Version("1")
        for thing in model.OTHERS + ("1", 1, 0, Range("==1"), Version):
            for call in (lambda: Range.between(thing, one), lambda: Range.between(one, thing),
                         lambda: Range.between(thing, object()), lambda: Range.between(last=object(), first=thing)):
                with self.assertRaises(BadVersion) as held:
                    call()
                self.assertIs(held.exception.given, thing)


class SetsTest(unittest.TestCase):
    # Windows of neighboring ranks at the first and the last version of all, and in the middle.
    WINDOWS = (tuple(range(5)), tuple(range(Version.LAST - 4, Version.LAST + 1)), tuple(range(5999, 6004)),
               (0, 1, Version("2").rank, Version.LAST - 1, Version.LAST))

    def sets(self, window):
        """All sets of ranks of a window, each with its range, and then those with all other versions instead."""
        made = []
        for many in range(len(window) + 1):
            for ranks in itertools.combinations(window, many):
                found = of_ranks(ranks)
                made.append((frozenset(ranks), False, found))
                made.append((frozenset(window) - set(ranks), True, found.others()))
        return made

    def test_all_sets_of_small_windows(self):
        for window in self.WINDOWS:
            outside = Range("*") - of_ranks(window)
            made = self.sets(window)
            for inside, rest, found in made:
                self.check(found, inside, rest, outside)
            for (ours, our_rest, one), (theirs, their_rest, other) in itertools.product(made, repeat=2):
                self.check(one & other, ours & theirs, our_rest and their_rest, outside)
                self.check(one | other, ours | theirs, our_rest or their_rest, outside)
                self.check(one - other, ours - theirs, our_rest and not their_rest, outside)
                self.assertIs(one <= other, ours <= theirs and our_rest <= their_rest)
                self.assertIs(one == other, ours == theirs and our_rest == their_rest)
                self.assertIs(one != other, not (ours == theirs and our_rest == their_rest))

    def check(self, found, inside, rest, outside):
        """The range has these ranks of the window, and all ranks outside of the window, or none."""
        wanted = [list(run) for run in runs_of_ranks(inside)] + [list(run) for run in outside.runs if rest]
        joined = []
        for first, last in sorted(wanted):
            if joined and joined[-1][1] + 1 == first:
                joined[-1][1] = last
            else:
                joined.append([first, last])
        runs = tuple((first, last) for first, last in joined)
        self.assertEqual(found.runs, runs)
        self.assertIs(bool(found), runs != ())
        self.assertEqual(str(found), model.normal_text(runs))

    def test_sets_of_texts(self):
        made = [(text, Range(text)) for text in GOOD]
        for (text, one), (other_text, other) in itertools.product(made, repeat=2):
            both, either, less = one & other, one | other, one - other
            answers = []
            for rank in sorted(set(model.probes(text)) | set(model.probes(other_text))):
                version, mine, its = Version.at(rank), model.has(text, rank), model.has(other_text, rank)
                self.assertIs(version in both, mine and its)
                self.assertIs(version in either, mine or its)
                self.assertIs(version in less, mine and not its)
                self.assertIs(version in one.others(), not mine)
                answers.append((mine, its))
            self.assertIs(one <= other, (True, False) not in answers)
            self.assertIs(one == other, (True, False) not in answers and (False, True) not in answers)
            self.assertIs(str(one) == str(other), one == other)

    def test_used_ranges_do_not_change(self):
        made = [(Range(text), Range(text).runs, str(Range(text))) for text in GOOD]
        for (one, runs, text), (other, its_runs, its_text) in itertools.product(made, repeat=2):
            results = (one & other, one | other, one - other, one.others(), one <= other, one == other, bool(one), one.pin)
            self.assertEqual(len(results), 8)
            self.assertEqual((one.runs, str(one), other.runs, str(other)), (runs, text, its_runs, its_text))

    def test_runs_are_tuples(self):
        for text in GOOD:
            for found in (Range(text), Range(text).others(), Range(text) & Range("<3"), Range(text) | Range("==5")):
                self.assertIs(type(found), Range)
                self.assertIs(type(found.runs), tuple)
                for run in found.runs:
                    self.assertIs(type(run), tuple)
                    self.assertEqual(len(run), 2)

    def test_pin(self):
        for text in GOOD + ("==1.4rc5", "==1|==1.0", ">=1,<=1", ">=1,<1.0.0.1a0", "!=1,==1"):
            runs = Range(text).runs
            if len(runs) == 1 and runs[0][0] == runs[0][1]:
                self.assertEqual(Range(text).pin, Version.at(runs[0][0]))
            else:
                self.assertIsNone(Range(text).pin)
        self.assertEqual(Range(">=1,<1.0.0.1a0").pin, Version("1"))
        self.assertEqual(Range("<=0a0").pin, FIRST)
        self.assertEqual(Range(">=999.999.999.999").pin, LAST)
        self.assertEqual([Range(text).pin for text in ("*", "none", "==1|==2", "==1|==1.0.0.1a0")], [None] * 4)

    def test_fact_1(self):
        self.assertEqual(Range(">=1,<1.0.0.1a0"), Range("==1"))
        self.assertEqual(str(Range("<2|>=2")), "*")
        self.assertEqual(Range("==2rc999|==2|==2.0.0.1a0").runs, ((Version("2").rank - 1, Version("2").rank + 1),))
        self.assertEqual(len(Range("<2|>2").runs), 2)

    def test_equal_to_no_other_object(self):
        class Likes:
            def __eq__(self, other):
                return True

        for thing in model.OTHERS + ("*", "==1", Range().runs, (), Version("1"), Range, Likes()):
            for text in ("*", "none", "==1"):
                self.assertIs(Range(text) == thing, False)
                self.assertIs(Range(text) != thing, True)

    def test_class_has_its_methods_itself(self):
        for name in ("runs", "pin", "others", "between", "__init__", "__and__", "__or__", "__sub__", "__contains__",
                     "__eq__", "__le__", "__bool__", "__str__"):
            self.assertIn(name, vars(Range))
        self.assertEqual(Range.__module__, "parcelindex.ranges")
        for name in ("runs", "pin"):
            self.assertIsInstance(vars(Range)[name], property)


class NormalTextTest(unittest.TestCase):
    def test_written_out(self):
        for text, wanted in (("*", "*"), ("none", "none"), ("<2", "<2"), (">2", ">2"), (">=2a0", ">=2a0"), ("<=2", "<=2"),
                             (">=1rc5", ">=1rc5"), (">1rc4", ">=1rc5"), ("<=1rc5", "<=1rc5"), ("<1rc6", "<=1rc5"),
                             ("<=2rc999", "<2"), (">=2.0.0.1a0", ">2"), (">1rc999", ">=1"), ("<=1.999.999.999", "<2a0"),
                             ("==1.0", "==1"), ("==0a0", "==0a0"), ("<=0a0", "==0a0"), ("<0a1", "==0a0"), ("<0a0", "none"),
                             ("<=0a1", "<=0a1"), ("<0a2", "<=0a1"), (">0a0", ">=0a1"), (">=0a0", "*"), ("!=1", "<1|>1"),
                             (">=999.999.999.999", "==999.999.999.999"), (">999.999.999.999", "none"),
                             ("<=999.999.999.999", "*"), ("<999.999.999.999", "<999.999.999.999"),
                             (">=999.999.999.999rc9", ">=999.999.999.999rc9"), ("<1|<2", "<2"), ("==2|==1", "==1|==2"),
                             (">=3|<1", "<1|>=3"), ("~=1.4", ">=1.4,<2a0"), ("~=1.4.5", ">=1.4.5,<1.5a0"),
                             (">=1,<1.0.0.1a0", "==1"), (">1a9,<1a11", "==1a10"), (">=1a10,<=1a11", ">1a9,<=1a11"),
                             (">=1a9,<=1a99", ">=1a9,<=1a99"), (">=1a9,<1a100", ">=1a9,<=1a99"), (">=1b0", ">=1b0"),
                             ("<1b0", "<1b0"), ("<=1a999", "<1b0"), (">1a999", ">=1b0"), (">=0", ">=0"), ("<0", "<0")):
            self.assertEqual(str(Range(text)), wanted, text)

    def test_the_shorter_form_of_each_bound(self):
        ranks = set(range(1, 6100)) | {model.rank_of(text) for text in VERSIONS}
        ranks |= {model.rank_of(text) + step for text in VERSIONS for step in (-1, 1)}
        for rank in sorted(ranks):
            if not 1 <= rank < Version.LAST:
                continue
            one, front, behind = (model.text_of(at) for at in (rank, rank - 1, rank + 1))
            lower = f">={one}" if len(one) <= len(front) else f">{front}"
            upper = f"<={one}" if len(one) <= len(behind) else f"<{behind}"
            self.assertEqual(str(Range.between(Version.at(rank), LAST)), lower)
            self.assertEqual(str(Range.between(FIRST, Version.at(rank))), upper)
            self.assertEqual(str(Range.between(Version.at(rank - 1), Version.at(rank))).split(",")[-1], upper)
            self.assertEqual(str(Range.between(Version.at(rank), Version.at(rank + 1))).split(",")[0], lower)

    def test_example(self):
        found = [str(Range(">=1,<2") | Range("==2")), str(Range("~=1.4") - Range("!=1.5")), bool(Range(">1,<1.0.0.1a0"))]
        self.assertEqual(found, [">=1,<=2", "==1.5", False])


if __name__ == "__main__":
    unittest.main()
