"""Grounds against the rows that point 21 asks for, told by trying all choices."""

import random
import unittest

import choice_model
import model
from choice_model import HERE, NORTH, Asked, Likes, index_of, row_of, standing
from parcelindex.choosing import choose
from parcelindex.clashing import Clash, is_reason
from parcelindex.environments import Environment
from parcelindex.errors import BadEnvironment, BadRequirement, NoChoice
from parcelindex.grounds import grounds_of, is_grounds
from parcelindex.markers import Marker
from parcelindex.parcels import Parcel
from parcelindex.requirements import Requirement
from parcelindex.sources import Index
from parcelindex.tastes import Keeping, Newest, Oldest
from parcelindex.versions import Version

ONE, TWO, THREE = Version("1"), Version("2"), Version("3")


def wanted_rows(asked, best):
    """The fronts of the rows of grounds, each with the pairs of its limits [21]."""
    order = asked.order()
    kept = {name: asked.kept(name) for name in order if asked.kept(name) is not None}
    changed = [name for name in order if name in kept and name in best and best[name] != kept[name]]
    unchanged = [name for name in order if name in kept and name not in changed]
    rows = []
    for name in changed:
        front = [other for other in order[:order.index(name)] if other in unchanged]
        rows.append((("kept", name), tuple((other, (kept[other],)) for other in front + [name])))
    for name in order:
        if name in best:
            liked = asked.taste(name, tuple(asked.admitted[name]))
            others = [] if name in [one.name for one in asked.effective] else [None]
            for other in others + list(liked[:liked.index(best[name])]):
                limits = [(one, (kept[one],)) for one in unchanged]
                limits += [(one, (best[one],) if one in best else ()) for one in order[:order.index(name)]]
                limits.append((name, () if other is None else (other,)))
                rows.append((("other", name, other), tuple(limits)))
    return rows


def texts_of(rows):
    """Grounds without their reasons, as texts."""
    return [" ".join(str(part) for part in row[:-1]) for row in rows]


class Tests(unittest.TestCase):
    def right(self, thing, call, taste=None):
        """Whether an object is grounds."""
        source, requests, places = call
        found = is_grounds(thing, source=source, requests=requests, environments=places, taste=taste)
        self.assertIn(found, (True, False))
        return found


class ManyCallsTest(Tests):
    def check(self, seed, source, requests, places, taste):
        """Compares the grounds of a call with the wanted rows; the numbers of rows of both kinds."""
        asked, call = Asked(source, requests, places, taste), (source, requests, places)
        best = asked.best()
        if best is None:
            for ask in (lambda: grounds_of(*call, taste=taste), lambda: is_grounds(None, *call, taste=taste)):
                with self.assertRaises(NoChoice) as held:
                    ask()
                self.assertIs(type(held.exception.clash), Clash)
                self.assertEqual(held.exception.clash.places, asked.clash())
            return None
        rows, wanted = grounds_of(*call, taste=taste), wanted_rows(asked, best)
        self.assertIs(type(rows), tuple)
        self.assertEqual([row[:-1] for row in rows], [front for front, _ in wanted])
        for row, (front, limits) in zip(rows, wanted):
            self.assertEqual((type(row), len(row)), (tuple, len(front) + 1))
            self.assertTrue(asked.is_right(row[-1], requests, limits), (front, limits))
            self.assertIs(is_reason(row[-1], *call, taste=taste, limits=limits), True)
        self.assertIs(self.right(rows, call, taste), True)
        self.check_others(random.Random(seed), asked, rows, wanted, call, taste)
        return len([row for row in rows if row[0] == "kept"]), len([row for row in rows if row[0] == "other"])

    def check_others(self, chance, asked, rows, wanted, call, taste):
        """Grounds with other reasons, and with one thing changed."""
        others = tuple(front + (asked.reason(chance, asked.requests, limits),) for front, limits in wanted)
        self.assertIs(self.right(others, call, taste), True)
        for thing in (list(rows), rows + (None,), rows + ((),), None, (rows,)):
            self.assertIs(self.right(thing, call, taste), False)
        for at in chance.sample(range(len(rows)), min(2, len(rows))):
            self.assertIs(self.right(rows[:at] + rows[at + 1:], call, taste), False)
            self.assertIs(self.right(rows[:at] + rows[at:at + 1] + rows[at:], call, taste), False)
            row = rows[at]
            made = [list(row), row + (None,), row[:-1], (row[0] + "x",) + row[1:], ("other" if row[0] == "kept" else "kept",) + row[1:], row[0]]
            made += [(row[0], name) + row[2:] for name in choice_model.NAMES + ("x", None, 5) if name != row[1]]
            made += [(row[0], row[1], version, row[-1]) for version in (None, ONE, TWO, THREE, Version("2rc1"), "2", Likes(), TWO.rank)
                     if len(row) == 3 or row[2] is not version and row[2] != version or isinstance(version, Likes)]
            for other in chance.sample(made, 6):
                self.assertIs(self.right(rows[:at] + (other,) + rows[at + 1:], call, taste), False)
            for reason in (None, rows[0][-1], chance.choice(((), ("none", "x"), list(row[-1]), Likes())), ("none", row[1]), rows[-1][-1]):
                good = asked.is_right(reason, asked.requests, wanted[at][1])
                self.assertIs(self.right(rows[:at] + (row[:-1] + (reason,),) + rows[at + 1:], call, taste), good)
        if len(rows) > 1:
            one, other = chance.sample(range(len(rows)), 2)
            swapped = list(rows)
            swapped[one], swapped[other] = swapped[other], swapped[one]
            self.assertIs(self.right(tuple(swapped), call, taste), False)

    def test_many_calls(self):
        found = [self.check(seed, *choice_model.made_call(seed)) for seed in range(300)]
        self.assertGreater(found.count(None), 50)
        self.assertGreater(sum(row[0] for row in found if row), 5)
        self.assertGreater(sum(row[1] for row in found if row), 150)

    def test_many_tight_calls(self):
        found = [self.check(seed, *choice_model.made_tight_call(seed)) for seed in range(150)]
        self.assertGreater(sum(row[0] for row in found if row), 20)
        self.assertGreater(sum(row[1] for row in found if row), 200)


class WrittenOutTest(Tests):
    def setUp(self):
        self.index = index_of(("tea", "1"), ("tea", "2", ("cup<2",)), ("tea", "3rc1"), ("tea", "4", ("cup>8",)), ("cup", "1"), ("cup", "2"),
                              ("mug", "1", ("tea", "cup")))

    def told(self, *texts, taste=None, places=HERE):
        return texts_of(grounds_of(self.index, row_of(*texts), places, taste=taste))

    def test_newest_and_oldest(self):
        self.assertEqual(self.told("tea"), ["other tea 4", "other cup None", "other cup 2"])
        self.assertEqual(self.told("tea", taste=Newest()), ["other tea 4", "other cup None", "other cup 2"])
        self.assertEqual(self.told("tea>1", taste=Oldest()), ["other tea 1", "other cup None"])
        self.assertEqual(self.told("tea", taste=Oldest()), [])
        self.assertEqual(self.told("tea==3rc1"), ["other tea 4"])
        self.assertEqual(self.told("mug"), ["other cup None", "other tea None", "other tea 4", "other tea 2"])
        self.assertEqual(self.told("mug", "tea"), ["other tea 4", "other cup None", "other cup 2"])
        self.assertEqual(self.told("mug", "tea; never", "cup; never"), ["other cup None", "other tea None", "other tea 4", "other tea 2"])
        self.assertEqual(self.told(), [])
        self.assertEqual(self.told("tea; never"), [])

    def test_kept_and_fresh(self):
        kept = standing("tea 1", "cup 2")
        self.assertEqual(self.told("tea", taste=Keeping(kept)), [])
        self.assertEqual(self.told("tea>1", taste=Keeping(kept)), ["kept tea", "kept cup", "other tea 1", "other tea 4", "other cup None",
                                                                       "other cup 2"])
        self.assertEqual(self.told("tea>1", taste=Keeping(kept, ("cup",))), ["kept tea", "other tea 1", "other tea 4", "other cup None", "other cup 2"])
        self.assertEqual(self.told("tea>1", taste=Keeping(kept, None)), ["other tea 4", "other cup None", "other cup 2"])
        self.assertEqual(self.told("tea==2", "cup", taste=Keeping(standing("cup 2"))), ["kept cup", "other tea 4", "other cup 2"])
        self.assertEqual(self.told("mug", taste=Keeping(standing("tea 2"))), ["other cup None", "other cup 2", "other tea None"])

    def test_kept_versions_of_withdrawn_releases(self):
        self.index.withdraw("tea", ONE)
        self.assertEqual(self.told("tea!=2", "cup", taste=Keeping(standing("tea 1"))), [])
        self.assertEqual(self.told("tea>1", taste=Keeping(standing("tea 1"))), ["kept tea", "other tea 1", "other tea 4", "other cup None", "other cup 2"])
        self.assertEqual(self.told("tea", taste=Oldest()), ["other cup None"])
        self.index.withdraw("tea", Version("4"))
        self.assertEqual(self.told("tea", taste=Newest()), ["other cup None", "other cup 2"])

    def test_the_reasons_of_one_call(self):
        rows = grounds_of(self.index, row_of("tea"), HERE)
        self.assertEqual([row[-1] for row in rows], [("split", "tea", ((Version("4"), ("none", "cup")),)), ("split", "tea", ((TWO, ("none", "cup")),)),
                                                     ("split", "tea", ((TWO, ("none", "cup")),))])

    def test_in_several_environments(self):
        index = Index()
        index.add(Parcel("tea", ONE), Parcel("tea", TWO, marker=Marker("system == north")), Parcel("tea", THREE, marker=Marker("never")))
        self.assertEqual(texts_of(grounds_of(index, row_of("tea"), (NORTH,))), ["other tea 3"])
        self.assertEqual(texts_of(grounds_of(index, row_of("tea"), (NORTH,) + HERE)), ["other tea 3", "other tea 2"])
        self.assertEqual(texts_of(grounds_of(index, row_of("tea; system == north"), (NORTH,) + HERE)), ["other tea 3"])

    def test_every_other_object(self):
        call = (self.index, row_of("tea"), HERE)
        rows = grounds_of(*call)
        things = model.OTHERS + (0, (), [], "kept", list(rows), dict(enumerate(rows)), Likes(), (Likes(),) * 3, rows[:2], rows[::-1], rows * 2,
                                 (rows[0], rows[1], list(rows[2])), (rows[0], rows[1], Likes()), ((Likes(),) + rows[0][1:],) + rows[1:],
                                 ((rows[0][0], Likes()) + rows[0][2:],) + rows[1:], (rows[0][:2] + (Likes(),) + rows[0][3:],) + rows[1:],
                                 (rows[0][:3] + (Likes(),),) + rows[1:], (rows[0][:2] + ("4",) + rows[0][3:],) + rows[1:],
                                 (rows[0][:2] + (Version("4"),) + rows[0][3:],) + rows[1:] + rows[:1])
        for thing in things:
            self.assertIs(self.right(thing, call), False)
        self.assertIs(self.right((rows[0][:2] + (Version("4.0"),) + rows[0][3:],) + rows[1:], call), True)
        self.assertIs(self.right((), (self.index, (), HERE)), True)
        self.assertIs(self.right([], (self.index, (), HERE)), False)
        for rows in (((Likes(), "tea", ("none", "tea")),), (("kept", "tea", ("none", "tea")), Likes())):
            self.assertIs(self.right(rows, (self.index, row_of("tea>1"), HERE), Keeping(standing("tea 1"))), False)

    def test_deep_reasons(self):
        index = index_of(*[(f"n{at}", "1", (f"n{at + 1}",)) for at in range(39)], ("n39", "1", ("n40",)), ("n40", "1"), ("n40", "2", ("n0<1",)))
        rows = grounds_of(index, row_of("n0"), HERE)
        self.assertEqual(len(rows), 41)
        self.assertIs(self.right(rows, (index, row_of("n0"), HERE)), True)
        deep = rows[-1][-1]
        for _ in range(3000):
            deep = ("split", "n0", ((ONE, deep),))
        self.assertIs(self.right(rows[:-1] + (rows[-1][:-1] + (deep,),), (index, row_of("n0"), HERE)), False)

    def test_errors_in_their_order(self):
        tea = row_of("tea")
        for ask in (grounds_of, lambda *row, **more: is_grounds(None, *row, **more)):
            for kind, given, requests, places in ((BadRequirement, None, None, None), (BadRequirement, list(tea), list(tea), ()),
                                                  (BadRequirement, 5, tea + (5, None), ()), (BadEnvironment, (), tea, ()),
                                                  (BadEnvironment, HERE * 2, row_of("tea>9"), HERE * 2), (BadEnvironment, None, row_of("tea>9"), None),
                                                  (BadEnvironment, (None,), (), (None,))):
                for taste in (None, Oldest()):
                    with self.assertRaises(kind) as held:
                        ask(self.index, requests, places, taste=taste)
                    self.assertEqual(held.exception.given, given)
            with self.assertRaises(NoChoice) as held:
                ask(self.index, row_of("cup", "tea==4", "tea"), HERE)
            self.assertEqual(held.exception.clash.places, (1,))
            self.assertEqual([str(one) for one in held.exception.clash.members], ["tea==4"])
            with self.assertRaises(TypeError):
                ask(self.index, tea, HERE, Oldest())
        with self.assertRaises(BadEnvironment):
            grounds_of(environments=(Environment(), "x"), requests=(), source=self.index)

    def test_a_choice_with_grounds_is_the_best_one(self):
        # Fact 9: grounds fit one choice only, so those of another call do not fit.
        rows = grounds_of(self.index, row_of("tea"), HERE)
        for texts, taste in ((("tea<2",), None), (("tea", "cup"), None), (("tea",), Oldest()), (("mug",), None)):
            choose(self.index, row_of(*texts), HERE, taste=taste)
            self.assertIs(self.right(rows, (self.index, row_of(*texts), HERE), taste), False)

    def test_definitions_stand_where_they_are_listed(self):
        for thing in (grounds_of, is_grounds):
            self.assertEqual(thing.__module__, "parcelindex.grounds")
        self.assertEqual(is_grounds(grounds_of(source=self.index, requests=(Requirement("tea"),), environments=HERE, taste=None),
                                    self.index, (Requirement("tea"),), HERE, taste=None), True)


if __name__ == "__main__":
    unittest.main()
