"""Choices: the best one against trying all, what it tells, and what changes nothing."""

import itertools
import random
import unittest

import choice_model
import model
from choice_model import HERE, NORTH, SOUTH, Asked, Likes, index_of, row_of, standing
from parcelindex.choosing import Choice, choose, reach_of
from parcelindex.clashing import Clash
from parcelindex.environments import Environment
from parcelindex.errors import BadEnvironment, BadRequirement, NoChoice, NoName
from parcelindex.markers import Marker
from parcelindex.parcels import Parcel
from parcelindex.ranges import Range
from parcelindex.requirements import Requirement
from parcelindex.sources import Index, Layers, Mirror, Snapshot
from parcelindex.tastes import Keeping, Newest, Oldest
from parcelindex.versions import Version


def picks_of(source, *texts, places=HERE, taste=None):
    """The picks of the best choice, as a text."""
    choice = choose(source, row_of(*texts), places, taste=taste)
    return " ".join(f"{name} {version}" for name, version in choice.picks)


class Tests(unittest.TestCase):
    def refused(self, kind, given, call):
        with self.assertRaises(kind) as held:
            call()
        self.assertIs(held.exception.given, given)
        self.assertIs(type(held.exception), kind)

    def none(self, source, *texts, places=HERE, taste=None):
        """The places of the clash."""
        with self.assertRaises(NoChoice) as held:
            choose(source, row_of(*texts), places, taste=taste)
        self.assertIs(type(held.exception.clash), Clash)
        return held.exception.clash.places

    def check(self, choice, asked, best):
        """All that a choice tells."""
        self.assertIs(type(choice), Choice)
        self.assertIs(choice.requests, asked.requests)
        self.assertEqual(choice.environments, asked.environments)
        self.assertEqual(choice.picks, tuple(sorted(best.items())))
        self.assertEqual(len(choice), len(best))
        for name in asked.reach + ["other", ""]:
            self.assertIs(name in choice, name in best)
            if name in best:
                self.assertEqual(choice.version_of(name), best[name])
            else:
                self.refused(NoName, name, lambda: choice.version_of(name))
        for place in asked.environments:
            claims, reached = asked.claims(best, asked.requests, place)
            self.assertEqual([(owner, id(claim)) for owner, claim in choice.claims_in(place)],
                             [(owner, id(claim)) for owner, claim in claims])
            words = {name: tuple(sorted(reached[name], key=choice_model.word_key)) for name in reached}
            wanted = [(name, best[name], words[name]) for name in sorted(reached)]
            rows = choice.rows_in(place)
            self.assertIs(type(rows), tuple)
            self.assertEqual([row[:3] for row in rows], wanted)
            for row in rows:
                self.assertEqual((type(row), len(row)), (tuple, 4))
                self.assertIs(row[3], asked.parcel(row[0], row[1], place))


class BestTest(Tests):
    def check_call(self, source, requests, places, taste):
        asked = Asked(source, requests, places, taste)
        best = asked.best()
        if best is None:
            with self.assertRaises(NoChoice) as held:
                choose(source, requests, places, taste=taste)
            self.assertEqual(held.exception.clash.places, asked.clash())
            return False
        self.check(choose(source, requests, places, taste=taste), asked, best)
        return True

    def test_many_calls(self):
        found = [self.check_call(*choice_model.made_call(seed)) for seed in range(1200)]
        self.assertGreater(found.count(True), 300)
        self.assertGreater(found.count(False), 300)

    def test_many_tight_calls(self):
        found = [self.check_call(*choice_model.made_tight_call(seed)) for seed in range(300)]
        self.assertGreater(found.count(True), 50)
        self.assertGreater(found.count(False), 10)

    def test_other_sources(self):
        for seed in range(60):
            source, requests, places, taste = choice_model.made_call(5000 + seed)
            mirror = Mirror(source)
            list(mirror.pull(source.event_count // 2))
            for other in (Snapshot(source), Snapshot(source, source.event_count // 2), mirror, Layers(mirror, source), Layers(Index(), source)):
                self.check_call(other, requests, places, taste)

    def test_each_taste_written_out(self):
        index = index_of(("tea", "1"), ("tea", "2"), ("tea", "3"), ("cup", "1"), ("cup", "2"))
        self.assertEqual(picks_of(index, "tea", "cup"), "cup 2 tea 3")
        self.assertEqual(picks_of(index, "tea", "cup", taste=Newest()), "cup 2 tea 3")
        self.assertEqual(picks_of(index, "tea", "cup", taste=Oldest()), "cup 1 tea 1")
        keeping = Keeping(standing("tea 2", "cup 1"))
        self.assertEqual(picks_of(index, "tea", "cup", taste=keeping), "cup 1 tea 2")
        self.assertEqual(picks_of(index, "tea>2", "cup", taste=keeping), "cup 1 tea 3")
        self.assertEqual(picks_of(index, "tea!=2", "cup", taste=keeping), "cup 1 tea 3")
        self.assertEqual(picks_of(index, "tea", "cup", taste=Keeping(standing("tea 2", "cup 1"), ("tea",))), "cup 1 tea 3")
        self.assertEqual(picks_of(index, "tea", "cup", taste=Keeping(standing("tea 2", "cup 1"), None)), "cup 2 tea 3")
        self.assertEqual(picks_of(index, "tea", "cup", taste=Keeping(standing("tea 9", "cup 1"))), "cup 1 tea 3")

    def test_the_order_of_names(self):
        index = index_of(("a", "1"), ("a", "2", ("b<2",)), ("b", "1"), ("b", "2", ("a<2",)))
        self.assertEqual(picks_of(index, "a", "b"), "a 2 b 1")
        self.assertEqual(picks_of(index, "b", "a"), "a 1 b 2")
        self.assertEqual(picks_of(index, "b; never", "b", "a"), "a 1 b 2")
        self.assertEqual(picks_of(index, "b; system == north", "a", "b"), "a 2 b 1")
        self.assertEqual(picks_of(index, "b; system == north", "a", "b", places=HERE + (NORTH,)), "a 1 b 2")
        above = index_of(("top", "1", ("b", "a")), ("a", "1"), ("a", "2", ("b<2",)), ("b", "1"), ("b", "2", ("a<2",)))
        self.assertEqual(picks_of(above, "top"), "a 2 b 1 top 1")

    def test_to_be_without_a_name_is_better(self):
        index = index_of(("tea", "1"), ("tea", "2"), ("z", "1", ("a",)), ("z", "2", ("b",)), ("a", "1"), ("b", "1"))
        self.assertEqual(picks_of(index, "z"), "b 1 z 2")
        wide = index_of(("top", "1", ("x", "y")), ("x", "1"), ("x", "2", ("a",)), ("y", "1"), ("a", "1"))
        self.assertEqual(picks_of(wide, "top"), "top 1 x 1 y 1")
        self.assertEqual(picks_of(wide, "top", "x"), "a 1 top 1 x 2 y 1")

    def test_fewest_changes_of_kept_versions_first(self):
        index = index_of(("a", "1", ("b<2",)), ("a", "2", ("b>1",)), ("b", "1"), ("b", "2"), ("c", "1"))
        self.assertEqual(picks_of(index, "a", "b", taste=Keeping(standing("a 1", "b 2"))), "a 1 b 1")
        self.assertEqual(picks_of(index, "b", "a", taste=Keeping(standing("a 1", "b 2"))), "a 2 b 2")
        self.assertEqual(picks_of(index, "a", "b", taste=Keeping(standing("a 1", "b 2"), ("a",))), "a 2 b 2")
        # A kept name that is not needed any more is not changed.
        needed = index_of(("a", "1", ("b",)), ("a", "2"), ("b", "1"), ("b", "2"))
        self.assertEqual(picks_of(needed, "a>1", taste=Keeping(standing("a 1", "b 1"))), "a 2")
        self.assertEqual(picks_of(needed, "a<2", taste=Keeping(standing("a 2", "b 1"))), "a 1 b 1")
        # First what is changed counts, then what is liked: b stays though a newer c could come in.
        later = index_of(("top", "1", ("b", "c")), ("b", "1", ("c<2",)), ("b", "2"), ("c", "1"), ("c", "2"))
        self.assertEqual(picks_of(later, "top", taste=Keeping(standing("b 1"))), "b 1 c 1 top 1")
        self.assertEqual(picks_of(later, "top"), "b 2 c 2 top 1")

    def test_shy_releases(self):
        index = index_of(("tea", "1"), ("tea", "2rc1"), ("cup", "1", ("tea>1",)), ("mug", "1", ("tea==2rc1",)))
        self.assertEqual(picks_of(index, "tea"), "tea 1")
        self.assertEqual(self.none(index, "tea>1"), (0,))
        self.assertEqual(picks_of(index, "tea==2rc1"), "tea 2rc1")
        self.assertEqual(picks_of(index, "tea>=2rc1,<=2rc1"), "tea 2rc1")
        self.assertEqual(self.none(index, "tea>=2rc1,<2"), (0,))
        self.assertEqual(self.none(index, "cup"), (0,))
        self.assertEqual(picks_of(index, "cup", "tea==2rc1"), "cup 1 tea 2rc1")
        self.assertEqual(self.none(index, "cup", "tea==2rc1; never"), (0,))
        self.assertEqual(self.none(index, "cup", "tea==2rc1; system == north"), (0,))
        self.assertEqual(picks_of(index, "cup", "tea==2rc1; system == north", places=HERE + (NORTH,)), "cup 1 tea 2rc1")
        self.assertEqual(self.none(index, "mug"), (0,))
        self.assertEqual(picks_of(index, "mug", "tea==2rc1"), "mug 1 tea 2rc1")
        self.assertEqual(picks_of(index, "mug", taste=Keeping(standing("tea 2rc1"))), "mug 1 tea 2rc1")
        self.assertEqual(self.none(index, "mug", taste=Keeping(standing("tea 2rc1"), ("tea",))), (0,))
        index.withdraw("tea", Version("1"))
        self.assertEqual(self.none(index, "tea"), (0,))
        self.assertEqual(picks_of(index, "tea==1"), "tea 1")
        self.assertEqual(picks_of(index, "tea", taste=Keeping(standing("tea 1"))), "tea 1")
        index.restore("tea", Version("1"))
        self.assertEqual(picks_of(index, "tea"), "tea 1")

    def test_kept_versions_of_withdrawn_releases(self):
        index = index_of(("tea", "1"), ("tea", "2"), ("cup", "1", ("tea<2",)))
        index.withdraw("tea", Version("1"))
        keeping = Keeping(standing("tea 1", "cup 1"))
        self.assertEqual(picks_of(index, "tea", taste=keeping), "tea 1")
        self.assertEqual(picks_of(index, "tea", "cup", taste=keeping), "cup 1 tea 1")
        self.assertEqual(self.none(index, "tea", "cup"), (1,))
        self.assertEqual(picks_of(index, "tea", taste=Keeping(standing("tea 1"), ("tea",))), "tea 2")

    def test_needs_in_circles(self):
        index = index_of(("a", "1", ("b",)), ("b", "1", ("c",)), ("c", "1", ("a",)), ("d", "1", ("e",)), ("e", "1", ("d",)), ("f", "1", ("f",)))
        self.assertEqual(picks_of(index, "a"), "a 1 b 1 c 1")
        self.assertEqual(picks_of(index, "c", "f"), "a 1 b 1 c 1 f 1")
        self.assertEqual(picks_of(index), "")
        own = index_of(("a", "1"), ("a", "2", ("a<2",)), ("b", "1", ("a[x]",)), ("a", "3", ("b",), (("x", ("a>1",)),)))
        self.assertEqual(picks_of(own, "a"), "a 3 b 1")
        self.assertEqual(picks_of(own, "a<3"), "a 1")

    def test_extras(self):
        index = index_of(("tea", "1", (), (("ice", ("cup",)), ("milk", ("cow<2", "ice[b]")))), ("tea", "2", (), (("ice", ()),)), ("cup", "1"),
                         ("cow", "1"), ("cow", "2"), ("ice", "1", (), (("b", ("tea[ice]",)),)), ("ice", "2"))
        self.assertEqual(picks_of(index, "tea"), "tea 2")
        self.assertEqual(picks_of(index, "tea[ice]"), "tea 2")
        self.assertEqual(picks_of(index, "tea[ice]<2"), "cup 1 tea 1")
        self.assertEqual(picks_of(index, "tea[milk]"), "cow 1 cup 1 ice 1 tea 1")
        self.assertEqual(self.none(index, "tea[ice,milk]>1"), (0,))
        self.assertEqual(self.none(index, "tea[other]"), (0,))
        choice = choose(index, row_of("tea[milk]"), HERE)
        self.assertEqual([(name, extras) for name, _, extras, _ in choice.rows_in(HERE[0])],
                         [("cow", ()), ("cup", ()), ("ice", ("b",)), ("tea", ("ice", "milk"))])
        self.assertEqual([(owner, str(claim)) for owner, claim in choice.claims_in(HERE[0])],
                         [("", "tea[milk]"), ("ice", "tea[ice]"), ("tea", "cup"), ("tea", "cow<2"), ("tea", "ice[b]")])

    def test_extras_by_the_order_of_words(self):
        index = index_of(("tea", "1", ("cup",), (("b", ("cup[z]",)), ("aa", ("cup[ab]",)))), ("cup", "1", (), (("z", ()), ("ab", ()))))
        choice = choose(index, row_of("tea[aa]", "tea[b]"), HERE)
        self.assertEqual([row[2] for row in choice.rows_in(HERE[0])], [("z", "ab"), ("b", "aa")])
        self.assertEqual([str(claim) for owner, claim in choice.claims_in(HERE[0]) if owner], ["cup", "cup[z]", "cup[ab]"])

    def test_the_same_name_requested_several_times(self):
        index = index_of(*[("tea", str(number), (), (("ice", ()),) if number < 5 else ()) for number in range(1, 7)])
        self.assertEqual(picks_of(index, "tea", "tea<5", "tea>1", "tea!=4"), "tea 3")
        self.assertEqual(picks_of(index, "tea", "tea"), "tea 6")
        self.assertEqual(picks_of(index, "tea", "tea[ice]"), "tea 4")
        self.assertEqual(self.none(index, "tea", "tea<3", "tea", "tea>3"), (1, 3))
        choice = choose(index, row_of("tea", "tea", "tea[ice]; level < 3"), HERE)
        self.assertEqual([(owner, str(claim)) for owner, claim in choice.claims_in(HERE[0])],
                         [("", "tea"), ("", "tea"), ("", "tea[ice]; level < 3")])

    def test_requests_without_an_effect(self):
        index = index_of(("tea", "1"), ("cup", "1"))
        self.assertEqual(picks_of(index, "tea; never"), "")
        self.assertEqual(picks_of(index, "other; never", "tea"), "tea 1")
        self.assertEqual(picks_of(index, "tea<1; system == north", "tea", places=(SOUTH,)), "tea 1")
        self.assertEqual(self.none(index, "tea<1; system == north", "tea", places=(SOUTH, NORTH)), (0,))
        choice = choose(index, row_of("tea; never", "cup"), HERE)
        self.assertEqual([str(one) for one in choice.requests], ["tea; never", "cup"])

    def test_several_environments(self):
        index, one, two = Index(), Version("1"), Version("2")
        index.add(Parcel("tea", one), Parcel("tea", two, "n", marker=Marker("system == north"), needs=row_of("cup")),
                  Parcel("tea", two, "s", marker=Marker("system == south"), needs=row_of("mug>=1; level < 3")),
                  Parcel("cup", one), Parcel("mug", one), Parcel("mug", two, marker=Marker("system == south")))
        self.assertEqual(picks_of(index, "tea", places=(NORTH, SOUTH)), "cup 1 mug 2 tea 2")
        self.assertEqual(picks_of(index, "tea", places=(NORTH,)), "cup 1 tea 2")
        self.assertEqual(picks_of(index, "tea", places=(SOUTH, Environment())), "tea 1")
        self.assertEqual(picks_of(index, "tea; system == south", places=(SOUTH, Environment())), "mug 2 tea 2")
        choice = choose(index, row_of("tea"), (SOUTH, NORTH, Environment(system="south", level=5)))
        rows = [[(row[0], str(row[1]), row[3].label) for row in choice.rows_in(place)] for place in choice.environments]
        self.assertEqual(rows, [[("mug", "2", "all"), ("tea", "2", "s")], [("cup", "1", "all"), ("tea", "2", "n")], [("tea", "2", "s")]])

    def test_eight_environments(self):
        index = index_of(("tea", "1", ("cup; level > 3",)), ("cup", "1"))
        places = tuple(Environment(level=level) for level in range(8))
        choice = choose(index, row_of("tea; level < 6"), places)
        self.assertEqual([len(choice.rows_in(place)) for place in places], [1, 1, 1, 1, 2, 2, 0, 0])

    def test_at_the_bounds(self):
        # Forty names in a row of needs, and 300 ways to give versions to those with several ones.
        counts = {3: 5, 7: 5, 12: 3, 20: 2, 33: 2}
        index = Index()
        for at in range(40):
            for number in range(1, counts.get(at, 1) + 1):
                needs = (f"n{at + 1}",) if at < 39 else ()
                index.add(Parcel(f"n{at}", Version(str(number)), needs=row_of(*needs, f"n{(at * 7) % 40}")))
        places = tuple(Environment(level=level) for level in range(8))
        choice = choose(index, row_of("n0", "n3!=2", "n7<5", "n12", "n20"), places)
        wanted = {f"n{at}": counts.get(at, 1) for at in range(40)}
        wanted["n7"] = 4
        self.assertEqual(dict(choice.picks), {name: Version(str(number)) for name, number in wanted.items()})
        oldest = choose(index, row_of("n0"), places, taste=Oldest())
        self.assertEqual({str(version) for _, version in oldest.picks}, {"1"})
        index.add(Parcel("n39", Version("2"), needs=row_of("n0>1")))
        index.withdraw("n39", Version("1"))
        with self.assertRaises(NoChoice) as held:
            choose(index, row_of("n5", "n0", "n39", "n7", "n3"), places)
        self.assertEqual(held.exception.clash.places, (0,))

    def test_many_versions(self):
        index = Index()
        for number in range(300):
            index.add(Parcel("tea", Version(str(number)), needs=row_of(f"cup=={number % 7}.1")))
        index.add(*[Parcel("cup", Version(f"{number}.1")) for number in range(7)])
        self.assertEqual(picks_of(index, "tea", "cup<3"), "cup 2.1 tea 296")
        self.assertEqual(picks_of(index, "cup", "tea"), "cup 6.1 tea 293")
        self.assertEqual(picks_of(index, "tea", "cup>4", taste=Oldest()), "cup 4.1 tea 4")
        self.assertEqual(self.none(index, "tea<300", "cup>7"), (1,))


class ChoiceTest(Tests):
    def setUp(self):
        self.index = index_of(("tea", "1", ("cup",)), ("tea", "2", ("cup>=1; system == north",)), ("cup", "1"))
        self.choice = choose(self.index, row_of("tea"), (SOUTH, NORTH))

    def test_other_objects(self):
        for thing in model.OTHERS + (0, "other", ("tea",), ["tea"], Version("1"), Likes()):
            self.assertIs(thing in self.choice, False)
            self.refused(NoName, thing, lambda: self.choice.version_of(thing))
            self.refused(NoName, thing, lambda: self.choice.version_of(name=thing))
        for thing in model.OTHERS + (0, "south a 0", Environment(), Environment(system="north", level=1), Environment, Likes()):
            self.refused(BadEnvironment, thing, lambda: self.choice.rows_in(thing))
            self.refused(BadEnvironment, thing, lambda: self.choice.rows_in(environment=thing))
            row = self.choice.claims_in(thing)
            self.refused(BadEnvironment, thing, lambda: next(row))
        for thing in model.OTHERS + (0, self.choice.picks, "tea", Choice, Likes()):
            self.assertIs(self.choice == thing, False)
            self.assertIs(self.choice != thing, True)

    def test_equal_environments(self):
        self.assertEqual(len(self.choice.rows_in(Environment.read("north a 0"))), 2)
        self.assertEqual(len(list(self.choice.claims_in(environment=Environment.read("south a 0")))), 1)

    def test_kinds(self):
        self.assertEqual((type(self.choice.picks), type(self.choice.picks[0])), (tuple, tuple))
        self.assertEqual((type(self.choice.requests), type(self.choice.environments)), (tuple, tuple))
        claims = list(self.choice.claims_in(NORTH))
        self.assertTrue(all(type(one) is tuple and len(one) == 2 for one in claims))
        self.assertTrue(hasattr(self.choice.claims_in(NORTH), "__next__"))

    def test_equal_picks(self):
        other = index_of(("tea", "2", ("cup",)), ("cup", "1"))
        self.assertEqual(choose(other, row_of("tea", "cup"), HERE), self.choice)
        self.assertEqual(choose(self.index, row_of("tea", "cup"), HERE), self.choice)
        self.assertNotEqual(choose(self.index, row_of("tea"), HERE), self.choice)
        self.assertNotEqual(choose(self.index, row_of("tea<2"), HERE), self.choice)
        self.assertEqual(choose(self.index, (), HERE), choose(other, (), (NORTH,)))

    def test_stays_as_it_is_when_the_index_goes_on(self):
        for seed in range(40):
            source, requests, places, taste = choice_model.made_call(seed)
            asked = Asked(Snapshot(source), requests, places, taste)
            best = asked.best()
            if best is not None:
                choice = choose(source, requests, places, taste=taste)
                for name, version in choice.picks:
                    source.add(Parcel(name, version, "zz"), Parcel(name, Version("9"), needs=row_of("other")))
                    if not source.is_withdrawn(name, version):
                        source.withdraw(name, version)
                self.check(choice, asked, best)

    def test_arguments_do_not_change(self):
        for seed in range(40):
            source, requests, places, taste = choice_model.made_call(seed)
            before = (source.event_count, [str(one) for one in requests], [str(one) for one in places])
            try:
                choose(source, requests, places, taste=taste)
            except NoChoice:
                pass
            self.assertEqual((source.event_count, [str(one) for one in requests], [str(one) for one in places]), before)


class FactsTest(Tests):
    def outcome(self, source, requests, places, taste):
        try:
            return choose(source, requests, places, taste=taste).picks
        except NoChoice as error:
            return error.clash.places

    def changed(self, source, change):
        """An index with a changed parcel in the place of each one."""
        made = Index()
        for event in source.since(0):
            if event[0] == "add":
                made.add(change(event[1]))
            else:
                getattr(made, event[0])(event[1], event[2])
        return made

    def test_fact_4_releases_and_their_order(self):
        for seed in range(150):
            source, requests, places, taste = choice_model.made_call(seed)
            wanted = self.outcome(source, requests, places, taste)
            reach = list(reach_of(source, requests))
            more = Index()
            more.add(Parcel("unreached", Version("1"), needs=row_of("tea<1")))
            names = sorted(source.names(), reverse=True)
            for name in names:
                for version in sorted(source.versions_of(name), key=lambda one: one.rank):
                    if name in reach or seed % 2:
                        more.add(*source.parcels_of(name, version))
                        if source.is_withdrawn(name, version):
                            more.withdraw(name, version)
            self.assertEqual(self.outcome(more, requests, places, taste), wanted)

    def test_fact_4_equal_markers_and_ranges(self):
        def other(one):
            return Requirement.of(one.name, extras=one.extras, versions=one.versions - Range("==7"), marker=-(-one.marker))

        def change(parcel):
            return Parcel(parcel.name, parcel.version, parcel.label, marker=parcel.marker & Marker("level >= 0"),
                          needs=tuple(other(one) for one in parcel.needs),
                          extras=tuple((word, tuple(other(one) for one in row)) for word, row in parcel.extras))

        for seed in range(150):
            source, requests, places, taste = choice_model.made_call(seed)
            wanted = self.outcome(source, requests, places, taste)
            alike = tuple(Requirement.of(one.name, extras=one.extras, versions=one.versions, marker=one.marker & Marker("not never"))
                          for one in requests)
            self.assertEqual(self.outcome(self.changed(source, change), alike, places, taste), wanted)
            more = requests + row_of("tea<0a0; never", "cup==2rc1; system == nowhere")
            self.assertEqual(self.outcome(source, more, places, taste), wanted)

    def test_fact_5_fewer_environments(self):
        count = 0
        for seed in range(400):
            source, requests, places, taste = choice_model.made_call(seed)
            best = Asked(source, requests, places, taste).best()
            if best is not None and len(places) > 1:
                choice = choose(source, requests, places, taste=taste)
                for many in range(1, len(places)):
                    for some in itertools.combinations(places, many):
                        asked = Asked(source, requests, places, taste)
                        asked.environments = some
                        reached = {row[0] for place in some for row in choice.rows_in(place)}
                        self.assertTrue(asked.is_choice({name: best[name] for name in reached}, requests))
                        count += 1
        self.assertGreater(count, 100)

    def test_fact_6_what_is_kept(self):
        count = 0
        for seed in range(400):
            source, requests, places, _ = choice_model.made_call(seed)
            chance = random.Random(seed)
            asked = Asked(source, requests, places)
            choices = list(asked.choices(requests))
            if choices:
                picks = chance.choice(choices)
                more = tuple(("unreached", Version("1")) for _ in range(chance.randint(0, 1)))
                for name, version in picks.items():
                    if not source.is_withdrawn(name, version) and chance.random() < 0.3:
                        source.withdraw(name, version)
                choice = choose(source, requests, places, taste=Keeping(tuple(picks.items()) + more))
                self.assertEqual(dict(choice.picks), picks)
                count += 1
        self.assertGreater(count, 100)


class ReachTest(Tests):
    def test_many_calls(self):
        for seed in range(200):
            source, requests, _, _ = choice_model.made_call(seed)
            self.assertEqual(list(reach_of(source, requests)), choice_model.reach_of(source, requests))
            self.assertEqual(list(reach_of(requests=requests, source=source)), choice_model.reach_of(source, requests))

    def test_markers_ranges_and_withdrawals_do_not_matter(self):
        index = Index()
        index.add(Parcel("tea", Version("1"), marker=Marker("never"), needs=row_of("cup>9; never")),
                  Parcel("tea", Version("2rc1"), "x", extras=(("ice", row_of("ice; never")),)), Parcel("cup", Version("1"), needs=row_of("b")),
                  Parcel("other", Version("1"), needs=row_of("tea")))
        index.withdraw("tea", Version("1"))
        self.assertEqual(list(reach_of(index, row_of("tea==9; never"))), ["b", "cup", "ice", "tea"])
        self.assertEqual(list(reach_of(index, row_of("nothing", "b", "b"))), ["b", "nothing"])
        self.assertEqual(list(reach_of(index, ())), [])

    def test_errors_at_the_first_request(self):
        for thing in model.OTHERS + (0, Requirement("tea"), [Requirement("tea")], "tea"):
            if not isinstance(thing, tuple):
                row = reach_of(Index(), thing)
                self.refused(BadRequirement, thing, lambda: next(row))
            row = reach_of(Index(), (Requirement("tea"), thing, None))
            if not isinstance(thing, Requirement):
                self.refused(BadRequirement, thing, lambda: next(row))


class ErrorsTest(Tests):
    def test_in_their_order(self):
        index, tea = index_of(("tea", "1")), Requirement("tea")
        nine = tuple(Environment(level=level) for level in range(9))
        for thing in model.OTHERS + (0, tea, [tea], "tea", {tea.name: tea}):
            if not isinstance(thing, tuple):
                self.refused(BadRequirement, thing, lambda: choose(index, thing, None))
            if thing is not tea:
                self.refused(BadRequirement, thing, lambda: choose(index, (tea, thing, object()), ()))
                self.refused(BadRequirement, thing, lambda: choose(environments=(), requests=(thing,), source=index))
        for thing in model.OTHERS + (0, (), HERE[0], list(HERE), "a a 0", ("a a 0",), HERE + (None,), HERE * 2, HERE + (NORTH,) + HERE, nine,
                                     (NORTH, Environment.read("north a 0")), (HERE,)):
            self.refused(BadEnvironment, thing, lambda: choose(index, (tea,), thing))
            self.refused(BadEnvironment, thing, lambda: choose(index, row_of("other"), thing))
            self.refused(BadEnvironment, thing, lambda: choose(index, (), thing, taste=Oldest()))
        self.assertEqual(len(choose(index, (tea,), nine[:8])), 1)

    def test_no_choice(self):
        index = index_of(("tea", "1"), ("cup", "1", ("tea>1",)))
        for texts, places in ((("other",), (0,)), (("tea", "cup"), (1,)), (("tea", "tea>1", "cup"), (1,)), (("tea==1", "tea==1.0.1"), (1,))):
            self.assertEqual(self.none(index, *texts), places)

    def test_taste_by_name_only(self):
        with self.assertRaises(TypeError):
            choose(Index(), (), HERE, Newest())
        self.assertEqual(len(choose(Index(), (), HERE, taste=None)), 0)

    def test_definitions_stand_where_they_are_listed(self):
        for thing in (choose, Choice, reach_of):
            self.assertEqual(thing.__module__, "parcelindex.choosing")
        for name in ("requests", "environments", "picks", "version_of", "rows_in", "claims_in", "__contains__", "__len__", "__eq__"):
            self.assertIn(name, vars(Choice))
        for name in ("requests", "environments", "picks"):
            self.assertIsInstance(vars(Choice)[name], property)

    def test_example(self):
        one, two, index = Version("1"), Version("2"), Index()
        index.add(Parcel("tea", one), Parcel("tea", two, marker=Marker("system == north"), needs=(Requirement("cup>=2"),)), Parcel("cup", two))
        north, south = Environment(system="north"), Environment(system="south")
        found = [[(name, str(version)) for name, version in choose(index, (Requirement("tea"),), places).picks]
                 for places in ((north,), (north, south))]
        self.assertEqual(found, [[("cup", "2"), ("tea", "2")], [("tea", "1")]])


if __name__ == "__main__":
    unittest.main()
