"""What the document promises over the whole program: names and kinds of parameters, examples, and one site on all ways."""

import doctest
import importlib
import inspect
import pathlib
import random
import re
import unittest

import disk_model
import worlds
from parcelindex import errors
from parcelindex.bases import Base, Standing
from parcelindex.choosing import choose
from parcelindex.desk import Desk
from parcelindex.disks import Disk
from parcelindex.installers import Installer
from parcelindex.locks import Lock, lock_everywhere, lock_of
from parcelindex.sources import Index
from parcelindex.tastes import Newest

DOCUMENT = pathlib.Path(__file__).resolve().parent.parent.parent / "shared" / "DOC.md"

# The parameters of the interface; those of properties are left out.
SIGNATURES = {
    "names": ("is_name(thing)", "is_word(thing)", "is_path(thing)"),
    "versions": ("Version(text)", "Version.of(*numbers)", "Version.at(rank)"),
    "ranges": ("Range(text='*')", "Range.between(first, last)", "Range().others()"),
    "environments": ("Environment(*, system='a', machine='a', level=0)", "Environment.read(text)"),
    "markers": ("Marker(text='always')", "Marker().__call__(environment)", "apart(one, other)", "together(markers)", "cells(markers)"),
    "requirements": ("Requirement(text)", "Requirement.of(name, *, extras=(), versions=None, marker=None)"),
    "parcels": ("Parcel(name, version, label='all', *, marker=None, needs=(), extras=(), parts=())", "Parcel.offers(self, word)", "Parcel.read(text)"),
    "sources": ("Source().names()", "Source().versions_of(name)", "Source().parcels_of(name, version)", "Source().is_withdrawn(name, version)",
                "Source().parcel_for(name, version, environment)", "Source().has_name(name)", "Source().release_count()", "Index()", "Index().add(*parcels)",
                "Index().withdraw(name, version)", "Index().restore(name, version)", "Index().since(number)", "Snapshot(index, number=None)", "Mirror(index)",
                "Mirror.pull(self, most=None)", "Layers(*sources)"),
    "tastes": ("Newest()", "Oldest()", "Keeping(standing, fresh=())", "Newest().__call__(name, versions)", "Newest().standing_of(name)"),
    "choosing": ("choose(source, requests, environments, *, taste=None)", "Choice.version_of(self, name)", "Choice.rows_in(self, environment)",
                 "Choice.claims_in(self, environment)", "reach_of(source, requests)"),
    "clashing": ("smallest_clash(source, requests, environments, *, taste=None)", "why_not(source, requests, environments, name, version, *, taste=None)",
                 "is_reason(thing, source, requests, environments, *, taste=None, places=None, limits=())"),
    "grounds": ("grounds_of(source, requests, environments, *, taste=None)", "is_grounds(thing, source, requests, environments, *, taste=None)"),
    "locks": ("Lock.section_for(self, environment)", "Lock.read(text)", "lock_of(choice)", "lock_everywhere(source, requests, *, taste=None)",
              "is_closed(requests, environment, rows, parcels)", "differences(old, new)"),
    "disks": ("Disk(room=None)", "Disk().write(path, text)", "Disk().remove(path)", "Disk().text_at(path)", "Disk().paths(beginning='')",
              "Disk().cut_after(number)", "Disk().power_on()", "Disk().twin()"),
    "bases": ("Base.read(text)", "Base.of(disk)", "Standing(disk, source)"),
    "audits": ("faults(disk)", "is_sound(disk)"),
    "installers": ("Installer(disk, source, environment)",) + tuple(f"Installer.{text}" for text in (
        "base_now(self)", "kept_numbers(self)", "marks_now(self)", "install(self, *requirements)", "remove(self, *names)", "upgrade(self, *names)",
        "change_all(self, steps)", "apply(self, lock)", "rollback(self, number)", "would(self, steps)", "recover(self, way='finish')", "repair(self)",
        "mark(self, word)", "unmark(self, word)", "why(self, name)", "tree(self)", "outdated(self)")),
    "reports": ("table(base)", "lock_summary(lock)"),
    "desk": ("Desk()", "Desk().execute(command)", "Desk().execute_all(*commands)"),
}
PROPERTIES = {
    "versions.Version": "numbers is_early rank", "ranges.Range": "runs pin", "environments.Environment": "system machine level",
    "requirements.Requirement": "name extras versions marker", "parcels.Parcel": "name version label marker needs extras parts text digest",
    "sources.Index": "event_count", "sources.Snapshot": "event_count", "sources.Mirror": "event_count lag", "choosing.Choice": "requests environments picks",
    "clashing.Clash": "places members reason", "locks.Lock": "requests questions sections", "disks.Disk": "room used acts",
    "bases.Base": "number environment requests rows", "desk.Desk": "shop disk",
}


class InterfaceTest(unittest.TestCase):
    def test_signatures(self):
        for name, rows in SIGNATURES.items():
            module = importlib.import_module(f"parcelindex.{name}")
            for row in rows:
                front, _, parameters = row.rpartition("(") if row.endswith("()") or "=(" not in row else row.partition("(")
                thing = eval(front, vars(module))
                self.assertEqual(str(inspect.signature(thing)), "(" + parameters, row)
                first = eval(re.match("[A-Za-z_]+", row)[0], vars(module))
                self.assertEqual(first.__module__, f"parcelindex.{name}", row)

    def test_properties(self):
        for place, names in PROPERTIES.items():
            module, _, name = place.partition(".")
            for one in names.split(" "):
                self.assertIsInstance(vars(getattr(importlib.import_module(f"parcelindex.{module}"), name))[one], property)

    def test_methods_stand_in_their_classes(self):
        for name, rows in SIGNATURES.items():
            module = importlib.import_module(f"parcelindex.{name}")
            for row in rows:
                found = re.match("([A-Z][a-z]+)(?:\\(\\))?[.]([a-z_]+)", row)
                if found:
                    self.assertIn(found[2], vars(getattr(module, found[1])), row)

    def test_examples_of_the_document(self):
        if not DOCUMENT.is_file():
            self.skipTest("the document is not beside the project")
        blocks = re.findall("```\n(>>>.*?)```", DOCUMENT.read_text(encoding="utf-8"), re.DOTALL)
        self.assertGreater(len(blocks), 7)
        for block in blocks:
            block = re.sub("\nraises ([A-Za-z]+)\\((.*)\\)", "\nTraceback (most recent call last):\nparcelindex.errors.\\1: \\2", block)
            examples = doctest.DocTestParser().get_doctest(block, {}, "DOC.md", "DOC.md", 0)
            results = doctest.DocTestRunner(verbose=False).run(examples)
            self.assertEqual(results.failed, 0)
            self.assertGreater(results.attempted, 1)


class OneSiteTest(unittest.TestCase):
    def site(self, disk):
        return {path: disk.text_at(path) for path in disk.paths("site/")}

    def test_all_ways_lead_to_the_same_site(self):
        seen = 0
        for seed in range(150):
            index, _, place, chance = worlds.made_world(seed, 0)
            requests = tuple({one.name: one for one in (worlds.made_requirement(chance, index.names()) for _ in range(chance.choice((1, 2, 3))))}.values())
            disk = Disk()
            first = worlds.outcome(lambda: Installer(disk, index, place).install(*requests))
            try:
                choice = choose(index, requests, (place,), taste=Newest())
            except errors.NoChoice as error:
                self.assertEqual(first, ("refused", errors.NoChoice, error.clash.places))
                continue
            locks = [lock_of(choice), lock_everywhere(index, requests)]
            for lock in locks + [Lock.read(str(lock)) for lock in locks]:
                other = Disk()
                self.assertEqual(worlds.outcome(lambda: Installer(other, index, place).apply(lock)), first)
                self.assertIs(other == disk, True)
            desk = Desk()
            desk.execute(f"environment {place}")
            for event in index.since(0):
                desk.execute("add " + event[1].text.replace("\\", "\\\\").replace("\n", "\\n"))
            told = [desk.execute(f"install {request}") for request in requests]
            if first[0] == "done" and not [one for one in told if one.startswith(("no choice", "path clash"))]:
                desk.execute("upgrade")
                self.assertEqual(self.site(desk.disk), self.site(disk))
                self.assertEqual(Base.of(desk.disk).rows, Base.of(disk).rows)
                seen += 1
        self.assertGreater(seen, 40)

    def test_the_order_of_events_and_a_source_that_stands_for_another(self):
        for seed in range(40):
            index, disk, place, _ = worlds.made_world(seed, 6)
            base = Base.of(disk)
            other = Index()
            for event in index.since(0):
                if event[0] == "add":
                    other.add(event[1])
                else:
                    getattr(other, event[0])(*event[1:])
            steps = (("upgrade",),)
            for source in (other, Standing(disk, index), Standing(disk.twin(), other)):
                self.assertEqual(worlds.outcome(lambda: Installer(disk, source, place).would(steps)),
                                 worlds.outcome(lambda: Installer(disk, index, place).would(steps)))
            self.assertEqual(Base.of(disk), base)


class PlainTest(unittest.TestCase):
    def test_calls_change_only_their_disk(self):
        for seed in range(20):
            index, disk, place, chance = worlds.made_world(seed, 8)
            twin, count = disk.twin(), index.event_count
            installer = Installer(disk, index, place)
            list(installer.tree())
            worlds.outcome(lambda: list(installer.outdated()))
            installer.base_now()
            self.assertEqual((disk == twin, index.event_count), (True, count))
            word, things = worlds.made_call(chance, installer, index, place)
            worlds.outcome(lambda: getattr(installer, word)(*things))
            self.assertEqual(index.event_count, count)

    def test_parameters_by_name(self):
        index, disk, place, _ = worlds.made_world(3, 0)
        installer = Installer(environment=place, source=index, disk=disk)
        request = worlds.made_requirement(random.Random(1), index.names())
        for call in (lambda **more: installer.change_all(**more), lambda **more: installer.would(**more)):
            self.assertEqual(worlds.outcome(lambda: call(steps=(("install", request),)))[0], "done")
        self.assertEqual(installer.recover(way="undo"), 1)
        self.assertEqual(installer.rollback(number=0), disk_model.differences(disk_model.base_of({"base": disk.text_at("past/1")}), disk_model.EMPTY))


if __name__ == "__main__":
    unittest.main()
