"""Sources: indexes, snapshots, mirrors and layers, compared with what a plain list of events tells."""

import itertools
import random
import unittest

import model
from parcelindex.environments import Environment
from parcelindex.errors import BadCount, BadEnvironment, BadEvent, NoRelease, Taken
from parcelindex.markers import Marker
from parcelindex.parcels import Parcel
from parcelindex.sources import Index, Layers, Mirror, Snapshot, Source
from parcelindex.versions import Version

NAMES = ("tea", "cup", "a", "z-9")
VERSIONS = ("1", "2", "1.5", "2rc1", "10", "0a0")
MARKERS = ("always", "system == north", "level < 3", "never", "not system == north")
PLACES = (Environment(), Environment(system="north"), Environment(level=3), Environment(system="north", level=50))
COUNTS = model.OTHERS + ("0", -1, 10 ** 40, -10 ** 40, (0,), [1], Version("1"))


class Told:
    """What rows of events tell, worked out anew for each question."""

    def __init__(self, events):
        self.rows = {}
        self.out = {}
        for event in events:
            if event[0] == "add":
                key = event[1].name, event[1].version.rank
                self.rows.setdefault(key, []).append(event[1])
            else:
                self.out[event[1], event[2].rank] = event[0] == "withdraw"

    def versions(self, name):
        return tuple(Version.at(rank) for rank in sorted((rank for one, rank in self.rows if one == name), reverse=True))


def same(one, other):
    """Whether two rows have the very same objects."""
    return len(one) == len(other) and all(mine is its for mine, its in zip(one, other))


class Tests(unittest.TestCase):
    def refused(self, kind, given, call):
        with self.assertRaises(kind) as held:
            call()
        self.assertIs(type(held.exception), kind)
        if isinstance(given, tuple) and kind in (NoRelease, Taken):
            self.assertTrue(same(held.exception.given, given), (held.exception.given, given))
            self.assertIs(type(held.exception.given), tuple)
        else:
            self.assertIs(held.exception.given, given)

    def check(self, source, events):
        """All that a source answers."""
        told = Told(events)
        names = tuple(sorted({name for name, _ in told.rows}))
        self.assertIsInstance(source, Source)
        self.assertEqual(source.names(), names)
        self.assertIs(type(source.names()), tuple)
        self.assertEqual(source.release_count(), len(told.rows))
        for name in NAMES + ("other", "", "Tea"):
            self.assertEqual(source.versions_of(name), told.versions(name))
            self.assertIs(type(source.versions_of(name)), tuple)
            self.assertIs(source.has_name(name), name in names)
            for text in VERSIONS:
                self.check_release(source, told, name, Version(text))

    def check_release(self, source, told, name, version):
        key = name, version.rank
        if key not in told.rows:
            for call in (lambda: source.parcels_of(name, version), lambda: source.is_withdrawn(name, version),
                         lambda: source.parcel_for(name, version, PLACES[0]), lambda: source.parcel_for(name, version, None)):
                self.refused(NoRelease, (name, version), call)
            return
        self.assertTrue(same(source.parcels_of(name, version), told.rows[key]))
        self.assertIs(type(source.parcels_of(name=name, version=version)), tuple)
        self.assertIs(source.is_withdrawn(name, version), told.out.get(key, False))
        for place in PLACES:
            wanted = next((parcel for parcel in told.rows[key] if parcel.marker(place)), None)
            self.assertIs(source.parcel_for(name, version, place), wanted)

    def check_other_objects(self, source):
        one = Version("1")
        for thing in model.OTHERS + (0, ("tea",), ["tea"], one):
            self.assertIs(source.has_name(thing), False)
            self.assertEqual(source.versions_of(thing), ())
            self.assertIs(source.has_name(name=thing), False)
            self.assertEqual(source.versions_of(name=thing), ())
            for call in (lambda: source.parcels_of(thing, one), lambda: source.is_withdrawn(thing, one),
                         lambda: source.parcel_for(thing, one, None)):
                self.refused(NoRelease, (thing, one), call)
            if thing is not one:
                for call in (lambda: source.parcels_of("tea", thing), lambda: source.is_withdrawn("tea", thing),
                             lambda: source.parcel_for(environment=None, version=thing, name="tea")):
                    self.refused(NoRelease, ("tea", thing), call)


def made_events(chance, many):
    """Events that change something each, made with the rules of [13]."""
    events = []
    for _ in range(many):
        told = Told(events)
        kind = chance.randint(0, 3)
        if kind < 2 or not told.rows:
            labels = {}
            name, text = chance.choice(NAMES), chance.choice(VERSIONS)
            for parcel in told.rows.get((name, Version(text).rank), []):
                labels[parcel.label] = True
            label = chance.choice([word for word in ("a", "b", "c", "d", "e", "f", "g", "h") if word not in labels] or ["zz"])
            if label != "zz":
                events.append(("add", Parcel(name, Version(text), label, marker=Marker(chance.choice(MARKERS)))))
        else:
            name, rank = chance.choice(sorted(told.rows))
            word = "restore" if told.out.get((name, rank), False) else "withdraw"
            events.append((word, name, Version.at(rank)))
    return events


def happen(index, event):
    """Makes one event."""
    if event[0] == "add":
        return index.add(event[1])
    return getattr(index, event[0])(event[1], event[2])


class IndexTest(Tests):
    def test_after_each_event(self):
        chance = random.Random(9)
        for _ in range(12):
            index, events = Index(), []
            self.check(index, events)
            for event in made_events(chance, 15):
                self.assertIsNone(happen(index, event))
                events.append(event)
                self.check(index, events)
                self.assertEqual(index.event_count, len(events))
                self.check_refused(index, events)
            self.check_other_objects(index)

    def check_refused(self, index, events):
        """Refused events change nothing."""
        told = Told(events)
        for name, rank in sorted(told.rows):
            version = Version.at(rank)
            call = index.withdraw if told.out.get((name, rank), False) else index.restore
            self.refused(Taken, (name, version), lambda: call(name, version))
            used = told.rows[name, rank][-1]
            other = Parcel(name, version, used.label, parts=(("new", "new"),))
            fresh = Parcel("new", version)
            self.refused(Taken, used.label, lambda: index.add(fresh, other))
            self.refused(BadEvent, 5, lambda: index.add(other, fresh, 5, None))
        for thing, version in (("new", Version("1")), (5, Version("1")), ("tea", "1"), (None, None), (["tea"], ["1"])):
            self.refused(NoRelease, (thing, version), lambda: index.withdraw(thing, version))
            self.refused(NoRelease, (thing, version), lambda: index.restore(version=version, name=thing))
        self.assertEqual(index.event_count, len(events))
        self.assertEqual(list(index.since(0)), events)
        self.check(index, events)

    def test_versions_the_newest_first(self):
        index = Index()
        for text in ("1", "2rc1", "10", "2", "1.5", "0a0", "1.0.0.1"):
            index.add(Parcel("tea", Version(text)))
        self.assertEqual([str(one) for one in index.versions_of("tea")], ["10", "2", "2rc1", "1.5", "1.0.0.1", "1", "0a0"])
        index.add(Parcel("tea", Version("1.0"), "other"))
        self.assertEqual(len(index.versions_of("tea")), 7)
        self.assertEqual([parcel.label for parcel in index.parcels_of("tea", Version("1.0.0"))], ["all", "other"])

    def test_several_parcels_at_once(self):
        index, one = Index(), Version("1")
        first, second, third = Parcel("tea", one, "b"), Parcel("tea", one, "a"), Parcel("cup", one, "b")
        self.assertIsNone(index.add())
        self.assertEqual(index.event_count, 0)
        index.add(first, second, third)
        self.assertTrue(same(index.parcels_of("tea", one), (first, second)))
        self.assertEqual(list(index.since(0)), [("add", first), ("add", second), ("add", third)])
        self.assertTrue(same([event[1] for event in index.since(0)], [first, second, third]))

    def test_taken_labels(self):
        one, two = Version("1"), Version("2")
        index = Index()
        index.add(Parcel("tea", one, "a"))
        for row, label in (((Parcel("tea", one, "a"),), "a"), ((Parcel("tea", one, "b"), Parcel("tea", one, "b")), "b"),
                           ((Parcel("tea", one, "b"), Parcel("tea", one, "a")), "a"),
                           ((Parcel("tea", two, "a"), Parcel("tea", two, "b"), Parcel("tea", two, "a"), Parcel("tea", one, "a")), "a"),
                           ((Parcel("tea", one, "c"), Parcel("tea", one, "c"), Parcel("tea", one, "a")), "c"),
                           ((Parcel("cup", one, "x"), Parcel("tea", Version("1.0"), "a")), "a")):
            with self.assertRaises(Taken) as held:
                index.add(*row)
            self.assertEqual(held.exception.given, label)
            self.assertEqual((index.event_count, index.names(), index.release_count()), (1, ("tea",), 1))
        index.add(Parcel("tea", two, "a"), Parcel("cup", one, "a"), Parcel("tea", one, "b"))
        self.assertEqual(index.event_count, 4)

    def test_no_parcels(self):
        index, parcel = Index(), Parcel("tea", Version("1"))
        for thing in model.OTHERS + (0, "tea", ("add", parcel), parcel.text, [parcel], Parcel):
            self.refused(BadEvent, thing, lambda: index.add(thing))
            self.refused(BadEvent, thing, lambda: index.add(parcel, thing, object()))
            self.refused(BadEvent, thing, lambda: index.add(parcel, parcel, thing))
        self.assertEqual((index.event_count, index.names()), (0, ()))

    def test_added_to_a_withdrawn_release(self):
        index, one = Index(), Version("1")
        index.add(Parcel("tea", one, "a"))
        self.assertIsNone(index.withdraw("tea", one))
        index.add(Parcel("tea", one, "b"))
        self.assertIs(index.is_withdrawn("tea", one), True)
        self.assertEqual(len(index.parcels_of("tea", one)), 2)
        self.assertIsNone(index.restore("tea", one))
        self.assertIs(index.is_withdrawn("tea", one), False)
        self.assertEqual([event[0] for event in index.since(0)], ["add", "withdraw", "add", "restore"])
        self.assertEqual(list(index.since(1))[0], ("withdraw", "tea", one))

    def test_parcel_for(self):
        index, one = Index(), Version("1")
        index.add(Parcel("tea", one, "a", marker=Marker("system == north")), Parcel("tea", one, "b", marker=Marker("level < 3")),
                  Parcel("tea", one, "c", marker=Marker("system == north or level < 5")))
        self.assertEqual(index.parcel_for("tea", one, Environment(system="north")).label, "a")
        self.assertEqual(index.parcel_for("tea", one, Environment(level=2)).label, "b")
        self.assertEqual(index.parcel_for(name="tea", version=one, environment=Environment(level=4)).label, "c")
        self.assertIsNone(index.parcel_for("tea", one, Environment(level=5)))
        for thing in model.OTHERS + (0, "a a 0", Environment):
            self.refused(BadEnvironment, thing, lambda: index.parcel_for("tea", one, thing))
            self.refused(NoRelease, ("cup", one), lambda: index.parcel_for("cup", one, thing))

    def test_since(self):
        chance = random.Random(10)
        events = made_events(chance, 12)
        index = Index()
        for event in events:
            happen(index, event)
        for number in range(len(events) + 1):
            self.assertEqual(list(index.since(number)), events[number:])
            self.assertEqual(list(index.since(number=number)), events[number:])
        for thing in COUNTS + (len(events) + 1,):
            row = index.since(thing)
            self.refused(BadCount, thing, lambda: next(row))
        self.assertTrue(all(type(event) is tuple for event in index.since(0)))

    def test_since_as_at_the_first_request(self):
        index = Index()
        index.add(Parcel("tea", Version("1")))
        early, late, wrong = index.since(0), index.since(1), index.since(2)
        index.add(Parcel("tea", Version("2")))
        self.assertEqual([event[1].version for event in late], [Version("2")])
        self.assertEqual(list(wrong), [])
        self.assertEqual(next(early)[1].version, Version("1"))
        index.add(Parcel("tea", Version("3")))
        self.assertEqual([event[1].version for event in early], [Version("2")])

    def test_two_ways_to_the_same_index(self):
        one, two = Version("1"), Version("2")
        first, second = Index(), Index()
        for index, row in ((first, (("tea", one), ("cup", two))), (second, (("cup", two), ("tea", one)))):
            index.add(*[Parcel(name, version) for name, version in row])
        self.assertEqual(first.names(), second.names())
        self.assertEqual(first.versions_of("tea"), second.versions_of("tea"))


class SnapshotTest(Tests):
    def test_for_ever_as_the_index_was(self):
        chance = random.Random(11)
        for _ in range(5):
            events = made_events(chance, 14)
            index, taken = Index(), []
            for event in events:
                taken.append(Snapshot(index))
                happen(index, event)
            taken.append(Snapshot(index, None))
            for number, snapshot in enumerate(taken):
                self.assertEqual(snapshot.event_count, number)
                self.check(snapshot, events[:number])
                self.check(Snapshot(index, number), events[:number])
                self.check(Snapshot(number=number, index=index), events[:number])
            self.check_other_objects(taken[-1])

    def test_wrong_numbers(self):
        index = Index()
        index.add(Parcel("tea", Version("1")))
        for thing in COUNTS[1:] + (2,):
            self.refused(BadCount, thing, lambda: Snapshot(index, thing))
            self.refused(BadCount, thing, lambda: Snapshot(index, number=thing))
        self.assertEqual([Snapshot(index, number).event_count for number in (0, 1, None)], [0, 1, 1])


class MirrorTest(Tests):
    def test_pulled_in_parts(self):
        chance = random.Random(12)
        for _ in range(8):
            events = made_events(chance, 14)
            index, mirror, known = Index(), None, 0
            mirror = Mirror(index)
            for at, event in enumerate(events):
                happen(index, event)
                self.assertEqual((mirror.event_count, mirror.lag), (known, at + 1 - known))
                if chance.randint(0, 2) == 0:
                    most = chance.choice((None, 0, 1, 2, 5))
                    pulled = list(mirror.pull(most))
                    wanted = events[known:at + 1] if most is None else events[known:at + 1][:most]
                    self.assertEqual(pulled, wanted)
                    known += len(wanted)
                self.check(mirror, events[:known])
            self.assertEqual(list(mirror.pull(most=None)), events[known:])
            self.assertEqual((mirror.event_count, mirror.lag), (len(events), 0))
            self.check(mirror, events)
            self.check_other_objects(mirror)

    def test_step_by_step(self):
        index = Index()
        parcels = [Parcel("tea", Version(str(number))) for number in range(6)]
        index.add(*parcels[:2])
        mirror = Mirror(index)
        row = mirror.pull()
        self.assertEqual((mirror.event_count, mirror.lag), (0, 2))
        self.assertEqual(next(row), ("add", parcels[0]))
        self.assertEqual((mirror.event_count, mirror.lag, mirror.release_count()), (1, 1, 1))
        index.add(parcels[2])
        self.assertEqual(next(row), ("add", parcels[1]))
        self.assertEqual(next(row), ("add", parcels[2]))
        self.assertEqual((mirror.event_count, mirror.lag), (3, 0))
        self.assertEqual(list(row), [])
        index.add(parcels[3])
        self.assertEqual(list(row), [])
        self.assertEqual(mirror.lag, 1)
        first, second = mirror.pull(2), mirror.pull(2)
        index.add(parcels[4], parcels[5])
        self.assertEqual([next(first), next(second), next(first)], [("add", parcel) for parcel in parcels[3:6]])
        self.assertEqual((list(first), list(second), mirror.lag), ([], [], 0))

    def test_at_most(self):
        index = Index()
        index.add(*[Parcel("tea", Version(str(number))) for number in range(5)])
        mirror = Mirror(index=index)
        self.assertEqual([len(list(mirror.pull(most))) for most in (0, 1, 2, 0, 9, 1)], [0, 1, 2, 0, 2, 0])
        row = Mirror(index).pull(1)
        next(row)
        index.add(Parcel("cup", Version("1")))
        self.assertEqual(list(row), [])

    def test_wrong_numbers_at_the_first_request(self):
        index = Index()
        index.add(Parcel("tea", Version("1")))
        mirror = Mirror(index)
        for thing in model.OTHERS[1:] + ("0", -1, (1,), Version("1")):
            row = mirror.pull(thing)
            self.refused(BadCount, thing, lambda: next(row))
        self.assertEqual((mirror.event_count, mirror.lag), (0, 1))
        self.assertEqual(len(list(mirror.pull(10 ** 40))), 1)


class LayersTest(Tests):
    def test_both_orders(self):
        chance = random.Random(13)
        for _ in range(10):
            rows = [made_events(chance, 8), made_events(chance, 8), made_events(chance, 3)]
            indexes = []
            for events in rows:
                indexes.append(Index())
                for event in events:
                    happen(indexes[-1], event)
            for order in itertools.permutations(range(3)):
                layers = Layers(*[indexes[at] for at in order])
                taken, events = {}, []
                for at in order:
                    names = [name for name in indexes[at].names() if name not in taken]
                    taken.update({name: at for name in names})
                    events += [event for event in rows[at] if (event[1].name if event[0] == "add" else event[1]) in names]
                self.check(layers, events)
                self.check_other_objects(layers)

    def test_only_the_first_source_is_asked(self):
        one, two = Version("1"), Version("2")
        first, second = Index(), Index()
        first.add(Parcel("tea", one))
        second.add(Parcel("tea", two), Parcel("cup", one))
        layers = Layers(first, second)
        self.assertEqual((layers.versions_of("tea"), layers.names(), layers.release_count()), ((one,), ("cup", "tea"), 2))
        self.refused(NoRelease, ("tea", two), lambda: layers.parcels_of("tea", two))
        self.refused(NoRelease, ("tea", two), lambda: layers.is_withdrawn("tea", two))
        self.refused(NoRelease, ("tea", two), lambda: layers.parcel_for("tea", two, None))
        self.assertEqual(Layers(second, first).versions_of("tea"), (two,))
        second.withdraw("cup", one)
        self.assertIs(layers.is_withdrawn("cup", one), True)
        first.add(Parcel("cup", two))
        self.assertEqual(layers.versions_of("cup"), (two,))

    def test_none_and_nested(self):
        self.check(Layers(), [])
        self.check_other_objects(Layers())
        index = Index()
        events = made_events(random.Random(14), 9)
        for event in events:
            happen(index, event)
        self.check(Layers(Layers(Index()), Layers(Snapshot(index), Mirror(index))), events)


class FormTest(unittest.TestCase):
    def test_classes_have_their_methods_themselves(self):
        for kind, names in ((Source, ("names", "versions_of", "parcels_of", "is_withdrawn", "parcel_for", "has_name", "release_count")),
                            (Index, ("add", "withdraw", "restore", "event_count", "since")), (Snapshot, ("__init__", "event_count")),
                            (Mirror, ("__init__", "pull", "event_count", "lag")), (Layers, ("__init__",))):
            self.assertEqual(kind.__module__, "parcelindex.sources")
            for name in names:
                self.assertIn(name, vars(kind))
            if "event_count" in names:
                self.assertIsInstance(vars(kind)["event_count"], property)
        self.assertIsInstance(vars(Mirror)["lag"], property)

    def test_generators_begin_with_the_first_request(self):
        index = Index()
        for row in (index.since("wrong"), Mirror(index).pull("wrong")):
            self.assertTrue(hasattr(row, "__next__"))
            with self.assertRaises(BadCount):
                next(row)


if __name__ == "__main__":
    unittest.main()
