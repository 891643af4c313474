"""Audits against a second reading of point 32: disks that are sound, and disks that are bent in all ways."""

import unittest

import disk_model
import worlds
from choice_model import row_of
from parcelindex.audits import faults, is_sound
from parcelindex.disks import Disk
from parcelindex.environments import Environment
from parcelindex.installers import Installer
from parcelindex.markers import Marker
from parcelindex.parcels import Parcel
from parcelindex.sources import Index
from parcelindex.versions import Version

ONE, TWO = Version("1"), Version("2")
KINDS = ("journal", "base", "marks", "past", "store", "missing", "row", "double", "site", "claim", "reach", "waste", "mark")


class Tests(unittest.TestCase):
    def check(self, texts):
        """Compares the faults of a disk; the list of their kinds."""
        disk = disk_model.disk_of(texts)
        found = list(faults(disk))
        self.assertEqual(found, disk_model.faults(texts), texts)
        self.assertEqual([type(fault) for fault in found], [tuple] * len(found))
        self.assertIs(is_sound(disk), found == [])
        self.assertEqual((disk.acts, disk_model.texts_of(disk)), (0, texts))
        return [fault[0] for fault in found]


class BentTest(Tests):
    def bend(self, chance, texts, index):
        """The texts with one thing changed."""
        texts, path = dict(texts), chance.choice(sorted(texts) or ["base"])
        old = texts.get(path, "")
        deed = chance.randrange(13)
        parcels = [one for name in index.names() for version in index.versions_of(name) for one in index.parcels_of(name, version)]
        one = chance.choice(parcels)
        if deed == 0:
            texts.pop(path, None)
        elif deed == 1:
            texts[path] = chance.choice(("", "x", old[:-1], old + "x\n", old + "\n", old.replace("1", "2"), old.replace("all", "big")))
        elif deed == 2:
            texts[chance.choice(("past/x", "past/", "past/01", "past/3", "past/99", "past/1/2", "past/-1", "store/x", "store/", "store/007", "store/5",
                                 "store/" + "9" * 70, "store/-5", "past/" + "9" * 40, "stor", "pas/1", "other", "site/zz", "past/a", "past/10"))] = chance.choice(("x", "base 3\n", ""))
        elif deed == 3:
            texts[f"store/{one.digest}"] = one.text
        elif deed == 4:
            texts["marks"] = chance.choice(("", "x", "mark a 0\n", "mark a 1\nmark b 2\n", "mark b 1\nmark a 2\n", "mark a 1", "mark a 01\n", "mark a 1\nmark a 2\n",
                                            "mark b 1\nmark aa 2\n", "mark aa 1\nmark b 2\n", "mark A 1\n", "mark a x\n", "mark a 1\n\n", "mark a 3 \n", "mark a 99\n"))
        elif deed == 5:
            texts["journal"] = chance.choice(("", "x", "base 0\nthen\nbase 1\nenvironment a a 0\n"))
        elif deed in (6, 7, 8) and "base" in texts:
            texts["base"] = self.bent_base(chance, texts["base"], one)
        elif deed == 9:
            for place in [place for place in texts if place.startswith("past/")]:
                texts[place] = chance.choice((texts[place], self.bent_base(chance, texts[place], one), "base 0\n", "x"))
        elif deed == 10:
            sums = [place for place in texts if place.startswith("store/")]
            if sums:
                texts[chance.choice(sums)] = chance.choice((one.text, texts[chance.choice(sums)]))
        elif deed == 11:
            places = [place for place in texts if place.startswith("site/")]
            if places:
                texts[chance.choice(places)] = chance.choice(("", "other\n"))
        else:
            self.add_other_owner(chance, texts)
        return texts

    def add_other_owner(self, chance, texts):
        """Adds a row with a parcel that has other texts for some paths of the site."""
        base = disk_model.base_of(texts)
        paths = sorted(place[5:] for place in texts if place.startswith("site/"))
        if base and base.number > 0 and paths:
            parcel = Parcel("a-other", ONE, parts=tuple((path, chance.choice(("other", "common\n"))) for path in paths[:6]))
            texts[f"store/{parcel.digest}"] = parcel.text
            rows = [("a-other", ONE, (), "all", parcel.digest)] + [row for row in base.rows if row[0] > "a-other"]
            texts["base"] = disk_model.text_of(base._replace(requests=base.requests + row_of("a-other"), rows=rows))

    def bent_base(self, chance, text, parcel):
        """A right text of a base that says something else."""
        base = disk_model.read_base(text)
        if base is None or base.number == 0:
            return text
        requests, rows, place, number = list(base.requests), list(base.rows), base.place, base.number
        deed = chance.randrange(7)
        if deed == 0:
            requests = requests[1:]
        elif deed == 1:
            requests = [one for one in requests if one.name != "cup"] + list(row_of(chance.choice(("cup", "cup>1", "cup[b]", "cup; never"))))
        elif deed == 2 and rows:
            del rows[chance.randrange(len(rows))]
        elif deed == 3 and rows:
            at = chance.randrange(len(rows))
            name, version, extras, label, total = rows[at]
            rows[at] = chance.choice(((name, version, ("b",), label, total), (name, version, (), label, total), (name, Version("7"), extras, label, total),
                                      (name, version, extras, "x", total), (name, version, extras, label, total + 1), (name + "x", version, extras, label, total)))
            rows = [row for at, row in enumerate(rows) if row[0] not in [one[0] for one in rows[:at]]]
        elif deed == 4:
            place = chance.choice(worlds.PLACES)
        elif deed == 5:
            number = chance.choice((1, number + 1, number + 7, max(1, number - 1), 10 ** 49))
        elif parcel.name not in [row[0] for row in rows]:
            rows.append((parcel.name, parcel.version, (), parcel.label, parcel.digest))
        rows.sort(key=lambda row: row[0])
        return disk_model.text_of(disk_model.Base(number, place, requests, rows))

    def test_bent_disks(self):
        found = dict.fromkeys(KINDS, 0)
        several = 0
        for seed in range(120):
            index, disk, _, chance = worlds.made_world(seed, 12)
            texts = disk_model.texts_of(disk)
            self.assertEqual(self.check(texts), [])
            for _ in range(12):
                bent = texts
                for _ in range(chance.choice((1, 1, 2, 3))):
                    bent = self.bend(chance, bent, index)
                kinds = self.check(bent)
                several += len(set(kinds)) > 2
                for kind in set(kinds):
                    found[kind] += 1
        for kind in KINDS:
            self.assertGreater(found[kind], 3, found)
        self.assertGreater(several, 50)


class WrittenOutTest(Tests):
    def setUp(self):
        """A sound disk: tea needs cup, both own a path with one text; two older bases, and a mark."""
        self.index, self.disk = Index(), Disk()
        self.tea = Parcel("tea", ONE, needs=row_of("cup[lid]>=1"), parts=(("a", "x"), ("both", "same")))
        self.cup = Parcel("cup", TWO, marker=Marker("level < 5"), extras=(("lid", ()), ("top", ())), parts=(("both", "same"), ("c", "")))
        self.index.add(self.tea, self.cup, Parcel("mug", ONE))
        installer = Installer(self.disk, self.index, Environment())
        installer.install(*row_of("mug"))
        installer.mark("a")
        installer.install(*row_of("tea"))
        installer.remove("mug")
        self.texts = disk_model.texts_of(self.disk)
        self.one, self.two = f"store/{self.tea.digest}", f"store/{self.cup.digest}"
        self.mug = self.index.parcels_of("mug", ONE)[0]

    def told(self, changes, gone=()):
        texts = {**self.texts, **changes}
        for path in gone:
            del texts[path]
        self.check(texts)
        return list(faults(disk_model.disk_of(texts)))

    def base(self, requests, rows, place="a a 0", number=3):
        return f"base {number}\nenvironment {place}\n" + "".join(f"request {one}\n" for one in requests) + "".join(f"row {row}\n" for row in rows)

    def test_sound(self):
        self.assertEqual(self.told({}), [])
        self.assertEqual(sorted(self.texts), sorted(["base", "marks", "past/0", "past/1", "past/2", "site/a", "site/both", "site/c", self.one, self.two,
                                                     f"store/{self.mug.digest}"]))
        self.assertEqual(list(faults(Disk())), [])
        self.assertIs(is_sound(Disk()), True)
        self.assertIs(is_sound(disk=self.disk), True)
        self.assertEqual(list(faults(disk=self.disk)), [])
        # Texts that nobody owns are no fault.
        self.assertEqual(self.told({"site/z": "x", "other": "y", "site": "", "marks/x": "", "journal/x": "", "base/1": "", "pas": ""}), [])

    def test_journal_base_and_marks_hide_the_rest(self):
        broken = {"past/1": "x", self.one: "x", "site/a": "z", "store/x": ""}
        self.assertEqual(self.told({**broken, "journal": "", "base": "x", "marks": "x"}), [("journal",)])
        self.assertEqual(self.told({**broken, "base": "x", "marks": "x"}), [("base",), ("marks",)])
        self.assertEqual(self.told({**broken, "base": "base 0\n"}), [("base",)])
        self.assertEqual(self.told({**broken, "marks": ""}), [("marks",)])
        self.assertEqual(self.told({"base": self.texts["base"][:-1]}), [("base",)])

    def test_each_kind_alone(self):
        self.assertEqual(self.told({"past/1": "x"}), [("past", 1)])
        self.assertEqual(self.told({"past/1": "x", "past/2": "x"}), [("past", 1), ("past", 2), ("waste", f"store/{self.mug.digest}")])
        self.assertEqual(self.told({"past/0": "base 0"}), [("past", 0)])
        self.assertEqual(self.told({"past/0": ""}), [("past", 0)])
        self.assertEqual(self.told({"past/2": self.texts["past/1"]}), [("past", 2)])
        self.assertEqual(self.told({"store/x": ""}), [("store", "store/x")])
        self.assertEqual(self.told({"store/10": "", "store/9": "", "store/010": "", "store/": ""}),
                         [("store", "store/9"), ("store", "store/10"), ("store", "store/"), ("store", "store/010")])
        self.assertEqual(self.told({}, [self.one]), [("missing", self.tea.digest)])
        self.assertEqual(self.told({}, [self.one, self.two]), [("missing", number) for number in sorted((self.tea.digest, self.cup.digest))])
        self.assertEqual(self.told({self.one: self.cup.text}), [("store", self.one), ("missing", self.tea.digest)])
        self.assertEqual(self.told({}, [f"store/{self.mug.digest}"]), [("missing", self.mug.digest)])
        self.assertEqual(self.told({"site/a": "y"}), [("site", "a")])
        self.assertEqual(self.told({}, ["site/c", "site/both"]), [("site", "both"), ("site", "c")])
        self.assertEqual(self.told({"past/3": "x", "past/x": "", "past/02": ""}), [("waste", "past/3"), ("waste", "past/02"), ("waste", "past/x")])
        self.assertEqual(self.told({"marks": "mark a 1\nmark b 3\nmark aa 4\n"}), [("mark", "aa")])
        self.assertEqual(self.told({"marks": "mark a 1\nmark b 2\nmark c 0\n"}, ["past/1"]), [("mark", "a")])

    def test_rows_claims_and_what_is_reached(self):
        tea, cup = f"tea 1 - all {self.tea.digest}", f"cup 2 lid all {self.cup.digest}"
        self.assertEqual(self.told({"base": self.base(["tea"], [cup, tea])}), [])
        for rows, found in (([f"cup 1 lid all {self.cup.digest}", tea], ["cup"]), ([cup, f"tea 1 - x {self.tea.digest}"], ["tea"]),
                            ([cup, f"zz 1 - all {self.tea.digest}"], ["zz"]), ([f"a 2 lid all {self.cup.digest}", f"b 1 - all {self.tea.digest}"], ["a", "b"])):
            self.assertEqual(self.told({"base": self.base(["tea"], rows), "site/a": "z"}), [("row", name) for name in found])
        self.assertEqual(self.told({"base": self.base(["tea"], [cup, tea], "a a 5")}), [("row", "cup")])
        self.assertEqual(self.told({"base": self.base(["tea>1"], [cup, tea])}), [("claim", "", "tea>1")])
        self.assertEqual(self.told({"base": self.base(["tea[x]", "mug"], [cup, tea])}), [("claim", "", "mug"), ("claim", "", "tea[x]"), ("reach", "tea")])
        self.assertEqual(self.told({"base": self.base(["tea"], [tea])}), [("claim", "tea", "cup[lid]>=1")])
        self.assertEqual(self.told({"base": self.base(["cup"], [cup])}), [("reach", "cup")])
        self.assertEqual(self.told({"base": self.base(["tea"], [cup.replace("lid", "lid,top"), tea])}), [("reach", "cup")])
        self.assertEqual(self.told({"base": self.base(["tea"], [cup.replace("lid", "-"), tea])}), [("reach", "cup")])
        self.assertEqual(self.told({"base": self.base(["tea; never"], [cup, tea])}), [("reach", "cup"), ("reach", "tea")])
        self.assertEqual(self.told({"base": self.base([], [cup])}), [("reach", "cup")])
        self.assertEqual(self.told({"base": self.base(["cup[top]", "tea"], [cup.replace("lid", "lid,top"), tea])}), [])

    def test_paths_of_two_parcels(self):
        other = Parcel("pot", ONE, parts=(("a", "y"), ("both", "same"), ("c", "z")))
        rows = [f"cup 2 lid all {self.cup.digest}", f"pot 1 - all {other.digest}", f"tea 1 - all {self.tea.digest}"]
        base = {"base": self.base(["tea", "pot"], rows), f"store/{other.digest}": other.text}
        self.assertEqual(self.told(base), [("double", "a"), ("double", "c"), ("site", "a")])
        self.assertEqual(self.told({**base, "site/a": "y"}), [("double", "a"), ("double", "c")])
        self.assertEqual(self.told({**base, "site/a": "y", "site/c": "z"}), [("double", "a"), ("double", "c"), ("site", "c")])

    def test_missing_of_an_older_base_hides_nothing(self):
        self.assertEqual(self.told({"site/a": "y"}, [f"store/{self.mug.digest}"]), [("missing", self.mug.digest), ("site", "a")])
        self.assertEqual(self.told({"site/a": "y"}, [self.one]), [("missing", self.tea.digest)])

    def test_what_is_kept(self):
        mine = {f"past/{number}": self.base([], [], number=number) for number in range(1, 12)}
        base = {"base": self.base(["tea"], [f"cup 2 lid all {self.cup.digest}", f"tea 1 - all {self.tea.digest}"], number=10), **mine}
        gone = [("waste", f"past/{number}") for number in (0, 2, 3, 10, 11)] + [("waste", f"store/{self.mug.digest}")]
        self.assertEqual(self.told(base), gone)
        self.assertEqual(self.told({**base, "marks": "mark a 2\nmark b 3\nmark c 10\nmark d 1\n"}), [gone[0]] + gone[3:])
        self.assertEqual(self.told({**base, "marks": "mark a 2\nmark b 3\nmark c 11\nmark d 1\n"}), [gone[0]] + gone[3:] + [("mark", "c")])
        self.assertEqual(self.told({**base, "marks": "mark a 10\n", "past/4": "x"}),
                         [("past", 4)] + [("waste", f"past/{number}") for number in (0, 1, 2, 3, 10, 11)] + [gone[-1]])

    def test_a_generator_that_tells_the_disk_as_it_is(self):
        told = faults(self.disk)
        self.disk.write("store/x", "")
        self.assertEqual(list(told), [("store", "store/x")])
        self.disk.remove("store/x")
        self.assertEqual(list(faults(self.disk)), [])

    def test_definitions_stand_where_they_are_listed(self):
        self.assertEqual((faults.__module__, is_sound.__module__), ("parcelindex.audits",) * 2)


if __name__ == "__main__":
    unittest.main()
