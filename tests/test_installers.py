"""Installers on drawn worlds: what they return, each act in its order, cuts behind every act, and recoveries."""

import random
import unittest

import disk_model
import worlds
from parcelindex import errors
from parcelindex.audits import faults, is_sound
from parcelindex.bases import Base
from parcelindex.installers import Installer
from parcelindex.sources import Snapshot

CHANGES = ("install", "remove", "upgrade", "change_all", "apply", "rollback")


class Tests(unittest.TestCase):
    def run_call(self, texts, room, index, place, word, things):
        """Makes a call on a disk of its own and compares all with the model; the outcome, the acts and the texts then."""
        wanted, acts = worlds.expected(disk_model.World(texts, index, place, room), word, things)
        disk = worlds.logged(texts, room)
        installer = Installer(disk, index, place)
        found = worlds.outcome(lambda: getattr(installer, word)(*things))
        self.assertEqual(found, wanted, (word, things))
        self.assertEqual(disk.log, acts, (word, things))
        then = disk_model.after(texts, acts)
        self.assertEqual(disk_model.texts_of(disk), then)
        if found[0] == "done":
            self.check_value(word, found[1])
        return found, acts, then

    def check_value(self, word, value):
        """The kind of what a call returns."""
        if word in CHANGES + ("would",):
            self.assertIs(type(value), tuple)
            self.assertEqual([type(row) for row in value], [tuple] * len(value))
        elif word == "repair":
            self.assertIs(type(value), tuple)
        elif word == "recover":
            self.assertIs(type(value), int)
        else:
            self.assertIsNone(value)


class DrawnWorldsTest(Tests):
    def test_calls_one_after_the_other(self):
        told = {}
        for seed in range(130):
            index, _, place, chance = worlds.made_world(seed, 0)
            texts = {}
            for _ in range(14):
                if chance.random() < 0.25:
                    worlds.go_on(chance, index)
                if chance.random() < 0.15:
                    place = chance.choice(worlds.PLACES)
                if chance.random() < 0.05:
                    texts = {**texts, "site/" + chance.choice(("tea/x", "all", "cup/y", "zz")): "mine"}
                    texts = texts if not disk_model.faults(texts) else disk_model.after(texts, [(path, None) for path in texts])
                installer = Installer(disk_model.disk_of(texts), index, place)
                word, things = worlds.made_call(chance, installer, index, place)
                found, acts, then = self.run_call(texts, None, index, place, word, things)
                key = (word, found[1].__name__ if found[0] == "refused" else "nothing" if not acts else "done")
                told[key] = told.get(key, 0) + 1
                if found[0] == "done":
                    self.assertIs(is_sound(disk_model.disk_of(then)), True)
                    self.check_told(disk_model.disk_of(then), index, place, then)
                    if acts:
                        self.check_room(texts, index, place, word, things, acts)
                texts = then
        for key in [(word, kind) for word in CHANGES for kind in ("nothing", "done")] + [("mark", "done"), ("unmark", "done"), ("would", "nothing")]:
            if key != ("remove", "nothing"):
                self.assertGreater(told.get(key, 0), 2, (key, told))
        for kind in ("NoChoice", "PathClash", "Foreign", "NoRequest", "NoName", "NoSection", "NoPast", "Taken", "NoMark"):
            self.assertGreater(sum(told[key] for key in told if key[1] == kind), 0, (kind, told))

    def check_told(self, disk, index, place, texts):
        """What an installer tells without acts."""
        installer, base = Installer(disk=disk, source=index, environment=place), disk_model.base_of(texts)
        self.assertEqual(str(installer.base_now()), disk_model.text_of(base))
        self.assertIs(type(installer.base_now()), Base)
        self.assertEqual(installer.kept_numbers(), tuple(sorted(int(path[5:]) for path in texts if path.startswith("past/"))))
        self.assertEqual(installer.marks_now(), tuple(disk_model.marks_of(texts).items()))

    def check_room(self, texts, index, place, word, things, acts):
        """A change needs just what the document says: with so much room it is made, with less it is refused."""
        world = disk_model.World(texts, index, place, 0)
        refused, _ = worlds.expected(world, word, things)
        if refused[0] == "done":
            self.assertNotIn(word, CHANGES)
            return
        self.assertIs(refused[1], errors.NoRoom)
        need = refused[2]
        used = sum(map(len, texts.values()))
        if need > used:
            self.assertEqual(self.run_call(texts, need - 1, index, place, word, things)[0], ("refused", errors.NoRoom, need))
        self.assertEqual(self.run_call(texts, need, index, place, word, things)[1], acts)
        for many in range(len(acts) + 1):
            self.assertLessEqual(sum(map(len, disk_model.after(texts, acts[:many]).values())), need)

    def test_two_installers_taking_turns(self):
        for seed in range(25):
            index, disk, _, chance = worlds.made_world(seed, 0)
            pair = [Installer(disk, index, place) for place in worlds.PLACES[:2]]
            for _ in range(12):
                at = chance.randrange(2)
                word, things = worlds.made_call(chance, pair[at], index, worlds.PLACES[at])
                texts = disk_model.texts_of(disk)
                wanted, acts = worlds.expected(disk_model.World(texts, index, worlds.PLACES[at]), word, things)
                self.assertEqual(worlds.outcome(lambda: getattr(pair[at], word)(*things)), wanted)
                self.assertEqual(disk_model.texts_of(disk), disk_model.after(texts, acts))
                for other, place in zip(pair, worlds.PLACES):
                    self.check_told(disk, index, place, disk_model.texts_of(disk))

    def test_would_is_what_change_all_returns(self):
        for seed in range(60):
            index, disk, place, chance = worlds.made_world(seed, 6)
            installer = Installer(disk, index, place)
            base = installer.base_now()
            steps = worlds.made_steps(chance, index.names(), [one.name for one in base.requests] or ["tea"], [row[0] for row in base.rows] or ["tea"])
            texts, acts = disk_model.texts_of(disk), disk.acts
            would = worlds.outcome(lambda: installer.would(steps=steps))
            self.assertEqual((disk_model.texts_of(disk), disk.acts), (texts, acts))
            disk.cut_after(0)
            self.assertEqual(worlds.outcome(lambda: installer.would(steps)), would)
            disk.power_on()
            self.assertEqual(worlds.outcome(lambda: installer.change_all(steps=steps)), would)

    def test_why_tree_and_outdated(self):
        told = {"why": 0, "tree": 0, "outdated": 0}
        for seed in range(200):
            index, disk, place, chance = worlds.made_world(seed, 8)
            worlds.go_on(chance, index)
            place = chance.choice((place, chance.choice(worlds.PLACES)))
            world = disk_model.World(disk_model.texts_of(disk), index, place)
            installer, acts = Installer(disk, index, place), disk.acts
            for name in index.names() + ("zz", ""):
                wanted, _ = worlds.expected(world, "why", (name,))
                self.assertEqual(worlds.outcome(lambda: installer.why(name)), wanted)
                told["why"] += wanted[0] == "done" and len(wanted[1]) > 1
            for word in ("tree", "outdated"):
                wanted, _ = worlds.expected(world, word, ())
                found = worlds.outcome(lambda: list(getattr(installer, word)()))
                self.assertEqual(found, wanted)
                told[word] += wanted[0] == "done" and len(wanted[1]) > 1
            self.assertEqual(disk.acts, acts)
        for word in told:
            self.assertGreater(told[word], 5, told)


def drawn_changes(many, calls):
    """Drawn changes with acts: the texts in front, the index, the environment, the call and its acts."""
    seed = 1000
    while many > 0:
        seed += 1
        index, disk, place, chance = worlds.made_world(seed, calls)
        texts = disk_model.texts_of(disk)
        for _ in range(6):
            word, things = worlds.made_call(chance, Installer(disk, index, place), index, place)
            _, acts = worlds.expected(disk_model.World(texts, index, place), word, things)
            if word in CHANGES and len(acts) > 5:
                many -= 1
                yield texts, index, place, word, things, acts
                break


class CutsTest(Tests):
    def cut(self, texts, room, number, call):
        """The disk on which a call was cut after so many acts."""
        disk = disk_model.disk_of(texts, room)
        disk.cut_after(number)
        with self.assertRaises(errors.PowerCut) as held:
            call(disk)
        self.assertEqual(held.exception.done, number)
        with self.assertRaises(errors.PowerCut):
            disk.write("x", "y")
        disk.power_on()
        return disk

    def goal(self, before, then, journal_at, gone_at, number, way):
        """The disk that a recovery must lead to when the change was cut after so many acts [31]."""
        if number <= journal_at:
            return before
        return then if number > gone_at or way == "finish" else before

    def test_cuts_behind_every_act_and_recoveries(self):
        seen = 0
        for texts, index, place, word, things, acts in drawn_changes(45, 7):
            then = disk_model.after(texts, acts)
            paths = [path for path, _ in acts]
            journal_at, gone_at = paths.index("journal"), len(paths) - 1 - paths[::-1].index("journal")
            world = disk_model.World(texts, index, place, 0)
            need = worlds.expected(world, word, things)[0][2]
            front, back = [disk_model.base_of(one) for one in (texts, then)]
            owned = [disk_model.owned(base, {row[4]: disk_model.stored({**texts, **then}, row[4]) for row in base.rows}) for base in (front, back)]
            for number in range(len(acts)):
                disk = self.cut(texts, need, number, lambda disk: getattr(Installer(disk, index, place), word)(*things))
                self.assertEqual(disk_model.texts_of(disk), disk_model.after(texts, acts[:number]))
                self.check_site(disk, texts, owned)
                for way in ("finish", "undo"):
                    goal = self.goal(texts, then, journal_at, gone_at, number, way)
                    self.check_recovery(disk.twin(), way, goal, index, place, need, owned)
                    seen += 1
        self.assertGreater(seen, 600)

    def check_site(self, disk, before, owned):
        """Fact 12: each path of the site has the text of one of both bases, or none."""
        for path in set(owned[0]) | set(owned[1]):
            allowed = [one.get(path) for one in owned]
            self.assertIn(disk.text_at(f"site/{path}") if f"site/{path}" in disk else None, allowed)
        others = {path for path in before if path.startswith("site/") and path[5:] not in set(owned[0]) | set(owned[1])}
        for path in others:
            self.assertEqual(disk.text_at(path), before[path])

    def check_recovery(self, disk, way, goal, index, place, need, owned):
        """A recovery makes the acts of the model, and leads to its goal within the need."""
        texts = disk_model.texts_of(disk)
        (_, number), acts = worlds.expected(disk_model.World(texts, index, place), "recover", (way,))
        log = worlds.logged(texts, need)
        installer = Installer(log, index, place)
        pending = "journal" in texts
        if pending:
            self.assertEqual(worlds.outcome(lambda: installer.upgrade()), ("refused", errors.Pending, disk_model.journal_of(texts)[1].number))
        elif texts != goal:
            self.assertEqual(worlds.outcome(lambda: installer.upgrade())[1], errors.Damaged)
        self.assertEqual(installer.recover(way), number)
        self.assertEqual(log.log, acts)
        self.assertEqual(disk_model.texts_of(log), goal)
        self.assertIs(is_sound(log), True)
        for many in range(len(acts) + 1):
            self.assertLessEqual(sum(map(len, disk_model.after(texts, acts[:many]).values())), need)
            if many % 2:
                self.check_site(disk_model.disk_of(disk_model.after(texts, acts[:many])), {}, owned)

    def test_recoveries_that_are_cut_again(self):
        """Any row of cut recoveries, in both ways, leads to the disk that belongs to the one that removed the journal."""
        chance = random.Random(3)
        for texts, index, place, word, things, acts in drawn_changes(20, 5):
            then = disk_model.after(texts, acts)
            paths = [path for path, _ in acts]
            journal_at, gone_at = paths.index("journal"), len(paths) - 1 - paths[::-1].index("journal")
            for number in range(len(acts)):
                first = self.cut(texts, None, number, lambda disk: getattr(Installer(disk, index, place), word)(*things))
                for _ in range(5):
                    disk, goal = first.twin(), self.goal(texts, then, journal_at, gone_at, number, None)
                    pending = journal_at < number <= gone_at
                    for _ in range(chance.choice((1, 1, 2, 3))):
                        way = chance.choice(("finish", "undo"))
                        disk.cut_after(chance.randrange(8))
                        left = worlds.outcome(lambda: Installer(disk, index, place).recover(way))
                        disk.power_on()
                        if pending and "journal" not in disk:
                            goal, pending = then if way == "finish" else texts, False
                        if left[0] == "done":
                            break
                        self.assertIs(left[1], errors.PowerCut)
                    way = chance.choice(("finish", "undo"))
                    goal = (then if way == "finish" else texts) if pending else goal
                    Installer(disk, index, place).recover(way=way)
                    self.assertEqual(disk_model.texts_of(disk), goal)

    def test_recoveries_of_sound_disks_do_nothing(self):
        for seed in range(20):
            index, disk, place, _ = worlds.made_world(seed, 6)
            texts, acts = disk_model.texts_of(disk), disk.acts
            for way in ("finish", "undo"):
                self.assertEqual(Installer(disk, index, place).recover(way), disk_model.base_of(texts).number)
            self.assertEqual(Installer(disk, index, place).recover(), disk_model.base_of(texts).number)
            self.assertEqual((disk_model.texts_of(disk), disk.acts), (texts, acts))

    def test_cuts_of_marks_and_repairs(self):
        chance = random.Random(8)
        for seed in range(40):
            index, disk, place, _ = worlds.made_world(seed, 9)
            texts = disk_model.texts_of(disk)
            gone = [path for path in texts if path.startswith(("store/", "site/")) and chance.random() < 0.4]
            for word, things, front in [("mark", ("zzz",), texts), ("repair", (), {path: texts[path] for path in texts if path not in gone})] + [
                    ("unmark", (one,), texts) for one in disk_model.marks_of(texts)]:
                wanted, acts = worlds.expected(disk_model.World(front, index, place), word, things)
                for number in range(len(acts)):
                    left = self.cut(front, None, number, lambda disk: getattr(Installer(disk, index, place), word)(*things))
                    self.assertEqual(disk_model.texts_of(left), disk_model.after(front, acts[:number]))
                    if word == "unmark" and number > 0:
                        Installer(left, index, place).recover(chance.choice(("finish", "undo")))
                        self.assertEqual(disk_model.texts_of(left), disk_model.after(front, acts))


class RepairTest(Tests):
    def damaged(self, chance, texts):
        """Texts with some damages in the store and on the site."""
        texts = dict(texts)
        for path in sorted(texts):
            if path.startswith(("store/", "site/")) and chance.random() < 0.35:
                text = chance.choice((None, "", "x", texts[path] + "\n", texts[path][:-1], "y" * 700))
                texts.pop(path)
                if text is not None:
                    texts[path] = text
        return texts

    def test_repairs(self):
        told = {}
        for seed in range(150):
            index, disk, place, chance = worlds.made_world(seed, 9)
            texts = self.damaged(chance, disk_model.texts_of(disk))
            if chance.random() < 0.15:
                index = Snapshot(index, index.event_count // 2)
            if chance.random() < 0.2:
                texts[chance.choice(("base", "marks", "journal", "past/" + str(disk_model.base_of(texts).number - 1)))] = "x"
            found, acts, then = self.run_call(texts, None, index, place, "repair", ())
            key = found[1].__name__ if found[0] == "refused" else "done" if acts else "nothing"
            told[key] = told.get(key, 0) + 1
            if key == "done":
                room = worlds.expected(disk_model.World(texts, index, place, 0), "repair", ())[0][2]
                used = sum(map(len, texts.values()))
                if room > used:
                    self.run_call(texts, room - 1, index, place, "repair", ())
                self.assertEqual(self.run_call(texts, room, index, place, "repair", ())[1], acts)
                self.assertEqual(self.run_call(then, None, index, place, "repair", ())[0], ("done", ()))
                left = [fault[0] for fault in faults(disk_model.disk_of(then))]
                self.assertEqual([kind for kind in left if kind in ("missing", "site")], [])
        for kind in ("done", "nothing", "Damaged", "NoRepair"):
            self.assertGreater(told.get(kind, 0), 2, told)

    def test_repairs_with_a_journal(self):
        damaged = 0
        for seed, (before, index, place, word, things, acts) in enumerate(drawn_changes(60, 5)):
            chance = random.Random(seed)
            paths = [path for path, _ in acts]
            whole = disk_model.after(before, acts[:chance.randint(paths.index("journal") + 1, len(paths) - 1 - paths[::-1].index("journal"))])
            self.assertIn("journal", whole)
            texts = self.damaged(chance, whole)
            found, _, repaired = self.run_call(texts, None, index, place, "repair", ())
            self.assertEqual(found[0], "done")
            for way in ("finish", "undo"):
                damaged += self.run_call(texts, None, index, place, "recover", (way,))[0][0] == "refused"
                # The site is told by the store, so all is whole again behind a recovery.
                _, _, then = self.run_call(repaired, None, index, place, "recover", (way,))
                self.assertEqual(then, self.run_call(whole, None, index, place, "recover", (way,))[2])
        self.assertGreater(damaged, 40)


if __name__ == "__main__":
    unittest.main()
