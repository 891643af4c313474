"""Clashes against trying all sets of requests, and reasons: right ones, changed ones and every other object."""

import itertools
import random
import unittest

import choice_model
import model
from choice_model import HERE, NORTH, Asked, Likes, index_of, row_of, standing
from parcelindex.choosing import choose
from parcelindex.clashing import Clash, is_reason, smallest_clash, why_not
from parcelindex.environments import Environment
from parcelindex.errors import BadEnvironment, BadRequirement, NoRelease
from parcelindex.markers import Marker
from parcelindex.parcels import Parcel
from parcelindex.requirements import Requirement
from parcelindex.sources import Index
from parcelindex.tastes import Keeping, Oldest
from parcelindex.versions import Version

ONE, TWO, THREE = Version("1"), Version("2"), Version("3")
NAMES = choice_model.NAMES + ("other", "", "Tea")


def changes(thing, chance):
    """Reasons with one part changed, and with other kinds of objects in some place."""
    made = [list(thing), thing + (thing[-1],), thing[:-1], (thing,), ("other",) + thing[1:], (None,) + thing[1:], thing[0], None]
    made += [(thing[0], name) + thing[2:] for name in NAMES + (None, 5, ["tea"], ("tea",), {"tea": 1})]
    if thing[0] == "none":
        made += [("split", thing[1], ()), ("none", thing[1], ()), ("split", thing[1]), ("split", thing[1], ((ONE, thing),))]
        return made
    word, name, rows = thing
    made += [("none", name), (word, name, list(rows)), (word, name, ()), (word, name, rows[::-1]), (word, name, rows[1:]),
             (word, name, rows[:-1]), (word, name, rows + rows[-1:]), (word, name, rows + ((Version("99"), ("none", name)),)),
             (word, name, rows[0]), (word, name, None), (word, name, dict(enumerate(rows))), (word, name, name)]
    for at, (version, reason) in enumerate(rows):
        others = [(ONE, reason), (TWO, reason), (str(version), reason), (None, reason), (version.rank, reason), [version, reason],
                  (version, reason, reason), (version,), (reason, version), version, reason, None, (Likes(), reason), (version, list(reason))]
        for other in others:
            made.append((word, name, rows[:at] + (other,) + rows[at + 1:]))
        for other in chance.sample(changes(reason, chance), 6):
            made.append((word, name, rows[:at] + ((version, other),) + rows[at + 1:]))
    return made


def made_limits(chance):
    row = []
    for _ in range(chance.choice((0, 1, 1, 2, 3))):
        versions = chance.sample(("1", "2", "3", "2rc1", "9"), chance.randint(0, 3))
        row.append((chance.choice(choice_model.NAMES), tuple(Version(text) for text in versions)))
    return tuple(row)


class SmallestTest(unittest.TestCase):
    def check(self, source, requests, places, taste):
        asked = Asked(source, requests, places, taste)
        wanted = asked.clash()
        found = smallest_clash(source, requests, places, taste=taste)
        if wanted is None:
            self.assertIsNone(found)
            return 0
        self.assertIs(type(found), Clash)
        self.assertEqual((type(found.places), found.places), (tuple, wanted))
        self.assertIs(type(found.members), tuple)
        self.assertEqual([id(one) for one in found.members], [id(requests[place]) for place in wanted])
        self.assertTrue(asked.is_right(found.reason, found.members))
        self.assertIs(is_reason(found.reason, source, requests, places, taste=taste, places=found.places), True)
        return len(wanted)

    def test_many_calls(self):
        found = [self.check(*choice_model.made_call(seed)) for seed in range(700)]
        self.assertGreater(found.count(1), 100)

    def test_many_tight_calls(self):
        found = [self.check(*choice_model.made_tight_call(seed)) for seed in range(400)]
        for many, least in ((0, 100), (1, 1), (2, 20), (3, 3)):
            self.assertGreaterEqual(found.count(many), least)

    def test_fewest_members_and_then_the_least_places(self):
        index = index_of(("tea", "1"), ("tea", "2"), ("tea", "3"), ("cup", "1", ("tea<2",)), ("a", "1"))
        for texts, places in ((("tea<2", "tea>1"), (0, 1)), (("tea<2", "a", "tea>1", "tea>2"), (0, 2)), (("tea!=1", "tea!=2", "tea!=3"), (0, 1, 2)),
                              (("tea!=1", "tea!=2", "tea!=3", "tea>3"), (3,)), (("tea!=1", "tea!=2", "tea!=3", "cup"), (0, 3)),
                              (("a", "cup", "tea>1", "tea>2"), (1, 2)), (("other", "tea>9"), (0,)), (("tea; never", "tea<2; never", "tea>1"), None),
                              (("tea>1", "tea<2; never", "tea<2"), (0, 2)), (("tea>1",) * 4 + ("tea<2",), (0, 4)), ((), None), (("tea",), None)):
            found = smallest_clash(index, row_of(*texts), HERE)
            self.assertEqual(None if found is None else found.places, places, texts)

    def test_admitted_in_the_whole_call(self):
        index = index_of(("tea", "1"), ("tea", "2rc1"), ("cup", "1", ("tea>1",)))
        found = smallest_clash(index, row_of("cup", "tea==2rc1", "tea<2rc1"), HERE)
        self.assertEqual(found.places, (0, 2))
        self.assertEqual(smallest_clash(index, row_of("cup", "tea<2rc1"), HERE).places, (0,))
        self.assertIs(is_reason(("none", "tea"), index, row_of("tea>1"), HERE), True)
        self.assertIs(is_reason(("none", "tea"), index, row_of("tea>1", "tea==2rc1"), HERE, places=(0,)), False)
        self.assertIs(is_reason(("none", "tea"), index, row_of("tea>1", "tea==2rc1; never"), HERE, places=(0,)), True)
        self.assertIsNone(smallest_clash(index, row_of("cup"), HERE, taste=Keeping(standing("tea 2rc1"))))

    def test_errors(self):
        index, tea = index_of(("tea", "1")), Requirement("tea")
        for call in (smallest_clash, lambda *row, **more: why_not(*row, "other", None, **more), lambda *row, **more: is_reason(None, *row, **more)):
            for kind, given, requests, places in ((BadRequirement, None, None, None), (BadRequirement, 5, (tea, 5, None), ()), (BadEnvironment, (), (tea,), ()),
                                                  (BadEnvironment, HERE * 2, (), HERE * 2), (BadEnvironment, None, (), None)):
                with self.assertRaises(kind) as held:
                    call(index, requests, places)
                self.assertEqual(held.exception.given, given)
                with self.assertRaises(kind):
                    call(index, requests, places, taste=Oldest())
        with self.assertRaises(BadRequirement):
            smallest_clash(environments=None, requests=[tea], source=index)

    def test_taste_by_name_only(self):
        for call in (lambda: smallest_clash(Index(), (), HERE, Oldest()), lambda: why_not(Index(), (), HERE, "tea", ONE, Oldest()),
                     lambda: is_reason(None, Index(), (), HERE, Oldest())):
            with self.assertRaises(TypeError):
                call()

    def test_definitions_stand_where_they_are_listed(self):
        for thing in (Clash, smallest_clash, why_not, is_reason):
            self.assertEqual(thing.__module__, "parcelindex.clashing")
        for name in ("places", "members", "reason"):
            self.assertIsInstance(vars(Clash)[name], property)


class WhyNotTest(unittest.TestCase):
    def test_many_calls(self):
        answers = []
        for seed in range(150):
            source, requests, places, taste = choice_model.made_call(seed)
            for name in source.names():
                for version in source.versions_of(name):
                    more = requests + (Requirement(f"{name}=={version}"),)
                    wanted = Asked(source, more, places, taste).clash()
                    found = why_not(source, requests, places, name, version, taste=taste)
                    answers.append(wanted)
                    self.assertEqual(None if found is None else found.places, wanted)
                    if found is not None:
                        self.assertEqual([str(one) for one in found.members], [str(more[place]) for place in wanted])
                        self.assertIs(is_reason(found.reason, source, more, places, taste=taste, places=found.places), True)
        self.assertGreater(answers.count(None), 50)
        self.assertGreater(len(answers) - answers.count(None), 50)

    def test_written_out(self):
        index = index_of(("tea", "1"), ("tea", "2", ("cup>1",)), ("tea", "3rc1"), ("cup", "1"), ("cup", "2"))
        index.withdraw("cup", ONE)
        self.assertIsNone(why_not(index, row_of("tea"), HERE, "tea", ONE))
        self.assertIsNone(why_not(index, row_of("tea"), HERE, "tea", Version("3rc1")))
        self.assertIsNone(why_not(index, row_of("tea<2"), HERE, "cup", ONE))
        self.assertIsNone(why_not(index, row_of("tea>1"), HERE, "cup", TWO))
        self.assertEqual(why_not(index, row_of("tea>1"), HERE, "cup", ONE).places, (0, 1))
        found = why_not(index, row_of("cup", "tea==2"), HERE, "cup", ONE)
        self.assertEqual((found.places, str(found.members[1])), ((1, 2), "cup==1"))
        found = why_not(index, row_of("tea>9"), HERE, version=ONE, name="tea")
        self.assertEqual(found.places, (0,))

    def test_no_release_at_last(self):
        index = index_of(("tea", "1"))
        for name, version in (("tea", TWO), ("cup", ONE), ("tea", "1"), ("tea", None), (None, ONE), (["tea"], ONE), (5, 5), ("tea", Likes()),
                              (Likes(), ONE), ("Tea", ONE), ("tea==1", ONE)):
            for texts in (("tea",), ("other",)):
                with self.assertRaises(NoRelease) as held:
                    why_not(index, row_of(*texts), HERE, name, version)
                self.assertIs(type(held.exception.given), tuple)
                self.assertEqual(len(held.exception.given), 2)
                self.assertIs(held.exception.given[0], name)
                self.assertIs(held.exception.given[1], version)
            with self.assertRaises(BadRequirement):
                why_not(index, None, HERE, name, version)
            with self.assertRaises(BadEnvironment):
                why_not(index, (), (), name, version)


class ReasonTest(unittest.TestCase):
    def check(self, asked, thing, places=None, limits=()):
        requests = asked.requests if places is None else tuple(asked.requests[place] for place in places)
        wanted = asked.is_right(thing, requests, limits)
        found = is_reason(thing, asked.source, asked.requests, asked.environments, taste=asked.taste, places=places, limits=limits)
        self.assertIs(found, wanted, (thing, places, limits))
        return wanted

    def test_right_and_changed_reasons(self):
        counts = {True: 0, False: 0, "split": 0}
        for seed in range(200):
            call = choice_model.made_call(seed) if seed % 2 else choice_model.made_tight_call(seed)
            chance = random.Random(seed)
            asked = Asked(*call)
            for _ in range(4):
                places = chance.choice((None, None, tuple(at for at in range(len(call[1])) if chance.random() < 0.6)))
                limits = made_limits(chance)
                some = asked.requests if places is None else tuple(asked.requests[place] for place in places)
                reason = asked.reason(chance, some, limits)
                if reason is not None:
                    self.assertTrue(self.check(asked, reason, places, limits))
                    counts["split"] += reason[0] == "split"
                    rows = changes(reason, chance)
                    for thing in chance.sample(rows, min(len(rows), 25)):
                        counts[self.check(asked, thing, places, limits)] += 1
                    self.check(asked, reason, places, made_limits(chance))
                    self.check(asked, reason, None, limits)
                    self.check(asked, reason, tuple(range(len(call[1]) - 1)), limits)
                else:
                    for name in choice_model.NAMES:
                        self.assertFalse(self.check(asked, ("none", name), places, limits) and next(asked.choices(some, limits), None))
        self.assertGreater(counts[False], 500)
        self.assertGreater(counts[True], 20)
        self.assertGreater(counts["split"], 100)

    def test_fact_8(self):
        found = {True: 0, False: 0}
        for seed in range(200):
            source, requests, places, taste = choice_model.made_tight_call(seed)
            asked, chance = Asked(source, requests, places, taste), random.Random(seed)
            for _ in range(3):
                limits = made_limits(chance)
                reason = asked.reason(chance, requests, limits)
                has_choice = next(asked.choices(requests, limits), None) is not None
                self.assertIs(reason is None, has_choice)
                found[has_choice] += 1
        self.assertGreater(min(found.values()), 50)

    def test_every_other_object(self):
        index = index_of(("tea", "2", ("cup>=2",)), ("cup", "1"), ("cup", "2"))
        requests = row_of("cup", "tea", "cup<2")
        right = ("split", "tea", ((TWO, ("none", "cup")),))
        self.assertIs(is_reason(right, index, requests, HERE), True)
        things = model.OTHERS + (0, "none", "split", ("none",), ("split",), ("none", "cup"), ("none", "tea"), ("none", "other"), ("none", None),
                                 ("none", ["cup"]), ["none", "cup"], (None, None), (None, None, None), ("none", "cup", None), right[:2], list(right),
                                 right + (None,), ("split", "tea", [(TWO, ("none", "cup"))]), ("split", "tea", (TWO, ("none", "cup"))),
                                 ("split", "tea", ([TWO, ("none", "cup")],)), ("split", "tea", ((TWO, ["none", "cup"]),)),
                                 ("split", "tea", (("2", ("none", "cup")),)), ("split", "tea", ((ONE, ("none", "cup")),)),
                                 ("split", "tea", ((TWO, ("none", "tea")),)), ("split", "tea", ((TWO, None),)), ("split", "tea", ()),
                                 ("split", "tea", ((TWO, ("none", "cup")),) * 2), ("split", ["tea"], right[2]), (["split"], "tea", right[2]),
                                 ("none", {"tea": 1}), ({}, {}), ((), ()), ("split", "tea", {TWO.rank: 1}), ("split", "tea", "ab"), (right,), Likes(),
                                 (Likes(), Likes()), ("none", Likes()), ("split", "tea", Likes()), ("split", "tea", (Likes(),)), Marker(), TWO,
                                 ("split", "tea", ((Likes(), ("none", "cup")),)), (Likes(), "cup"), (Likes(), "tea", right[2]), requests, index)
        for thing in things:
            self.assertIs(is_reason(thing, index, requests, HERE), False)
            self.assertIs(is_reason(thing=thing, source=index, requests=requests, environments=HERE, places=(0, 1, 2), limits=()), False)

    def test_objects_that_call_themselves_equal(self):
        index = index_of(("tea", "1"), ("cup", "1", ("tea>1",)))
        for right, wrong in ((("none", "tea"), ((Likes(), "tea"), ("none", Likes()), (Likes(), Likes()))),
                             (("split", "cup", ((ONE, ("none", "tea")),)),
                              ((Likes(), "cup", ((ONE, ("none", "tea")),)), ("split", "cup", ((Likes(), ("none", "tea")),)),
                               ("split", "cup", ((ONE, (Likes(), "tea")),)), ("split", Likes(), ((ONE, ("none", "tea")),))))):
            requests = row_of("tea>1") if right[0] == "none" else row_of("cup")
            self.assertIs(is_reason(right, index, requests, HERE), True)
            for thing in wrong:
                self.assertIs(is_reason(thing, index, requests, HERE), False)

    def test_other_right_reasons(self):
        index = index_of(("tea", "1"), ("tea", "2", ("cup>=2",)), ("cup", "1"), ("cup", "2"))
        requests = row_of("tea>1", "cup<2")
        for thing in (("split", "tea", ((TWO, ("none", "cup")),)), ("split", "cup", ((ONE, ("split", "tea", ((TWO, ("none", "cup")),))),)),
                      ("split", "tea", ((Version("2.0"), ("none", "cup")),))):
            self.assertIs(is_reason(thing, index, requests, HERE), True)
        for thing in (("split", "cup", ((ONE, ("none", "tea")),)), ("split", "cup", ((TWO, ("none", "tea")),)), ("none", "cup"),
                      ("split", "tea", ((TWO, ("split", "cup", ((ONE, ("none", "cup")),))),)), ("split", "tea", ((TWO, ("split", "tea", ())),))):
            self.assertIs(is_reason(thing, index, requests, HERE), False)

    def test_a_given_version_that_breaks(self):
        index = index_of(("a", "1", ("b",)), ("b", "1", ("a>1",)), ("b", "2", ("a[x]",)), ("a", "2", ("b<1",)))
        requests = row_of("a<2")
        right = ("split", "a", ((ONE, ("split", "b", ((TWO, ("none", "a")), (ONE, ("none", "a"))))),))
        self.assertIs(is_reason(right, index, requests, HERE), True)
        self.assertIs(is_reason(("split", "a", ((ONE, ("split", "b", ((TWO, ("none", "b")), (ONE, ("none", "a"))))),)), index, requests, HERE), False)
        self.assertEqual(smallest_clash(index, requests, HERE).reason, right)

    def test_within_limits(self):
        index = index_of(("tea", "1"), ("tea", "2"), ("cup", "1"), ("cup", "2", ("tea>1",)))
        requests = row_of("tea", "cup>1")
        for thing, limits, right in ((("none", "tea"), (("tea", ()),), True), (("none", "tea"), (("tea", (ONE,)),), False),
                                     (("none", "cup"), (("tea", (ONE,)), ("cup", (ONE,))), True), (("none", "cup"), (("cup", (ONE, TWO)),), False),
                                     (("split", "cup", ((TWO, ("none", "tea")),)), (("tea", (ONE,)),), True),
                                     (("split", "cup", ((TWO, ("none", "tea")),)), (("tea", (ONE, TWO)), ("tea", (ONE,))), True),
                                     (("split", "cup", ((TWO, ("none", "tea")),)), (("tea", (ONE, TWO)),), False),
                                     (("split", "tea", ((ONE, ("split", "cup", ((TWO, ("none", "tea")),))),)), (("tea", (ONE,)),), True),
                                     (("split", "tea", ((TWO, ("none", "cup")), (ONE, ("none", "cup")))), (("cup", (THREE,)),), True),
                                     (("split", "tea", ((ONE, ("none", "cup")), (TWO, ("none", "cup")))), (("cup", (THREE,)),), False),
                                     (("none", "tea"), (("tea", (ONE,)), ("tea", (TWO,))), True), (("none", "other"), (("other", ()),), False)):
            self.assertIs(is_reason(thing, index, requests, HERE, limits=limits), right, (thing, limits))

    def test_some_places(self):
        index = index_of(("tea", "1"), ("tea", "2"), ("cup", "1"))
        requests = row_of("tea<2", "tea>1", "cup; never", "tea")
        for places, right in ((None, True), ((0, 1), True), ((0, 1, 2, 3), True), ((0,), False), ((1, 2, 3), False), ((), False), ((2,), False)):
            self.assertIs(is_reason(("none", "tea"), index, requests, HERE, places=places), right)
            self.assertIs(is_reason(("none", "cup"), index, requests, HERE, places=places), False)

    def test_in_several_environments(self):
        index = Index()
        index.add(Parcel("tea", ONE, marker=Marker("system == north")), Parcel("tea", TWO, marker=Marker("not system == north")))
        requests = row_of("tea")
        for places, right in ((HERE, False), ((NORTH,), False), (HERE + (NORTH,), True), ((NORTH, Environment(level=5)), True)):
            self.assertIs(is_reason(("none", "tea"), index, requests, places), right)
            self.assertIs(smallest_clash(index, requests, places) is not None, right)

    def test_deep_reasons(self):
        index = index_of(*[(f"n{at}", "1", (f"n{at + 1}",)) for at in range(39)])
        requests = row_of("n0")
        found = smallest_clash(index, requests, HERE)
        self.assertIs(is_reason(found.reason, index, requests, HERE), True)
        reason = ("none", "n39")
        for at in reversed(range(39)):
            reason = ("split", f"n{at}", ((ONE, reason),))
        self.assertIs(is_reason(reason, index, requests, HERE), True)
        deep = ("none", "n39")
        for _ in range(5000):
            deep = ("split", "n0", ((ONE, deep),))
        self.assertIs(is_reason(deep, index, requests, HERE), False)

    def test_choices_have_no_reason(self):
        for seed in range(120):
            source, requests, places, taste = choice_model.made_call(seed)
            if smallest_clash(source, requests, places, taste=taste) is None:
                choose(source, requests, places, taste=taste)
                for name, other in itertools.product(choice_model.NAMES, repeat=2):
                    self.assertIs(is_reason(("none", name), source, requests, places, taste=taste), False)
                    self.assertIs(is_reason(("split", name, ((ONE, ("none", other)),)), source, requests, places, taste=taste), False)

    def test_example(self):
        one, two, index, here = Version("1"), Version("2"), Index(), (Environment(),)
        index.add(Parcel("tea", two, needs=(Requirement("cup>=2"),)), Parcel("cup", one), Parcel("cup", two))
        requests = (Requirement("cup"), Requirement("tea"), Requirement("cup<2"))
        found = (smallest_clash(index, requests, here).places,
                 is_reason(("split", "tea", ((two, ("none", "cup")),)), index, requests, here, places=(1, 2)))
        self.assertEqual(found, ((1, 2), True))


if __name__ == "__main__":
    unittest.main()
