"""Locks: their texts and sections, the first wrong line of a text, rows that are closed, and differences."""

import itertools
import random
import unittest

import bending
import choice_model
import lock_model
import model
from choice_model import HERE, NORTH, SOUTH, Asked, Likes, index_of, row_of, standing
from parcelindex.choosing import choose
from parcelindex.environments import Environment
from parcelindex.errors import BadEnvironment, BadLock, BadRequirement, BadText, NoChoice, NoSection, TooWide
from parcelindex.locks import Lock, differences, is_closed, lock_everywhere, lock_of
from parcelindex.markers import Marker
from parcelindex.parcels import Parcel
from parcelindex.requirements import Requirement
from parcelindex.sources import Index
from parcelindex.tastes import Keeping, Newest, Oldest
from parcelindex.versions import Version

ONE, TWO, THREE = Version("1"), Version("2"), Version("3")
PRIME = 2 ** 61 - 1
EVERYWHERE = tuple(Environment(system=system, machine=machine, level=level) for system, machine, level
                   in itertools.product(("a", "b", "north", "zz"), ("a", "big"), (0, 2, 3, 4, 49, 50, 51, 99)))


def made_lock(seed):
    """A lock of a call that has a choice, or None."""
    source, requests, places, taste = choice_model.made_call(seed)
    try:
        return lock_of(choose(source, requests, places, taste=taste))
    except NoChoice:
        return None


class TextTest(unittest.TestCase):
    def check(self, lock, requests, questions, sections):
        """All that a lock tells."""
        self.assertIs(type(lock), Lock)
        self.assertEqual([str(one) for one in lock.requests], [str(one) for one in requests])
        self.assertEqual((type(lock.requests), type(lock.questions), type(lock.sections)), (tuple, tuple, tuple))
        self.assertEqual(lock.questions, questions)
        self.assertEqual(lock.sections, sections)
        for section in lock.sections:
            self.assertEqual((type(section), len(section)), (tuple, 2))
            for row in section[1] or ():
                self.assertEqual([type(part) for part in row], [str, Version, tuple, str, int])
        text = lock_model.text_of_lock(requests, questions, sections)
        self.assertEqual(str(lock), text)
        again = Lock.read(text)
        self.assertEqual((str(again), again.questions, again.sections), (text, questions, sections))
        self.assertEqual([str(one) for one in again.requests], [str(one) for one in requests])
        self.assertIs(again == lock, True)
        for place in EVERYWHERE:
            self.check_section(lock, place)
            self.check_section(again, place)

    def check_section(self, lock, place):
        """The section for an environment [23]."""
        wanted = lock_model.answers(lock.questions, place)
        found = [rows for one, rows in lock.sections if lock_model.answers(lock.questions, one) == wanted]
        if found and found[0] is not None:
            self.assertEqual(lock.section_for(place), found[0])
            return
        with self.assertRaises(NoSection) as held:
            lock.section_for(environment=place)
        self.assertIs(held.exception.given, place)

    def test_locks_of_choices(self):
        seen = 0
        for seed in range(300):
            source, requests, places, taste = choice_model.made_call(seed)
            asked = Asked(source, requests, places, taste)
            best = asked.best()
            if best is not None:
                choice = choose(source, requests, places, taste=taste)
                sections = []
                for place in places:
                    alone = Asked(source, requests, places, taste)
                    alone.environments = (place,)
                    sections.append((place, lock_model.rows_of(alone, best)))
                if seed % 6 == 0:
                    self.check(lock_of(choice), requests, lock_model.questions_of(source, requests), tuple(sections))
                self.assertEqual(str(lock_of(choice=choice)),
                                 lock_model.text_of_lock(requests, lock_model.questions_of(source, requests), sections))
                seen += 1
        self.assertGreater(seen, 50)

    def test_locks_for_all_environments(self):
        seen = {True: 0, False: 0}
        for seed in range(160):
            source, requests, _, taste = choice_model.made_call(seed)
            questions = lock_model.questions_of(source, requests)
            sections = []
            for place in lock_model.cells_of(questions):
                asked = Asked(source, requests, (place,), taste)
                sections.append((place, lock_model.rows_of(asked, asked.best())))
                seen[sections[-1][1] is None] += 1
            lock = lock_everywhere(source, requests, taste=taste)
            self.assertEqual(str(lock), lock_model.text_of_lock(requests, questions, sections))
            if seed % 8 == 0:
                self.check(lock, requests, questions, tuple(sections))
                # Fact 10: for every environment it has the best choice for it.
                for place in EVERYWHERE[::5]:
                    asked = Asked(source, requests, (place,), taste)
                    rows = lock_model.rows_of(asked, asked.best())
                    if rows is None:
                        with self.assertRaises(NoSection):
                            lock.section_for(place)
                    else:
                        self.assertEqual(lock.section_for(place), rows)
        self.assertGreater(min(seen.values()), 100)

    def test_written_out(self):
        index = Index()
        index.add(Parcel("tea", ONE, needs=row_of("cup[lid,top]; level < 3", "cup>=1"), extras=(("ice", row_of("cow; machine == big")),)),
                  Parcel("tea", TWO, "big", marker=Marker("system == north")), Parcel("cup", ONE, extras=(("lid", ()), ("top", ()), ("aaaa", ()))),
                  Parcel("other", ONE, needs=row_of("cup; level == 77")))
        sums = {(parcel.name, str(parcel.version)): parcel.digest for name in index.names() for version in index.versions_of(name)
                for parcel in index.parcels_of(name, version)}
        requests = row_of("tea", "tea<9; system != south", "cup[aaaa]; level < 3")
        lock = lock_of(choose(index, requests, (NORTH, Environment(), Environment(level=5))))
        self.assertEqual(str(lock), "lock\nrequest tea\nrequest tea<9; system != south\nrequest cup[aaaa]; level < 3\nquestion always\n"
                         "question level < 3\nquestion machine == big\nquestion system != south\nquestion system == north\n"
                         f"environment north a 0\nrow cup 1 lid,top,aaaa all {sums['cup', '1']}\nrow tea 1 - all {sums['tea', '1']}\n"
                         f"environment a a 0\nrow cup 1 lid,top,aaaa all {sums['cup', '1']}\nrow tea 1 - all {sums['tea', '1']}\n"
                         f"environment a a 5\nrow cup 1 - all {sums['cup', '1']}\nrow tea 1 - all {sums['tea', '1']}\n")
        lock = lock_everywhere(index, row_of("tea>1", "tea; system == north"))
        self.assertEqual(str(lock), "lock\nrequest tea>1\nrequest tea; system == north\nquestion always\nquestion level < 3\n"
                         "question machine == big\nquestion system == north\nenvironment a a 0\nnothing\nenvironment a a 3\nnothing\n"
                         f"environment a big 0\nnothing\nenvironment a big 3\nnothing\nenvironment north a 0\nrow tea 2 - big {sums['tea', '2']}\n"
                         f"environment north a 3\nrow tea 2 - big {sums['tea', '2']}\nenvironment north big 0\nrow tea 2 - big {sums['tea', '2']}\n"
                         f"environment north big 3\nrow tea 2 - big {sums['tea', '2']}\n")
        self.assertEqual(lock.section_for(Environment(system="north", level=77))[0][:4], ("tea", TWO, (), "big"))

    def test_without_requests_and_without_rows(self):
        self.assertEqual(str(lock_everywhere(Index(), ())), "lock\nenvironment a a 0\n")
        self.assertEqual(lock_everywhere(Index(), ()).section_for(NORTH), ())
        self.assertEqual(str(lock_of(choose(Index(), (), (NORTH,) + HERE))), "lock\nenvironment north a 0\nenvironment a a 0\n")
        index = index_of(("tea", "1"))
        self.assertEqual(str(lock_of(choose(index, row_of("tea; never"), HERE))),
                         "lock\nrequest tea; never\nquestion always\nquestion never\nenvironment a a 0\n")
        self.assertEqual(str(lock_everywhere(index, row_of("cup; system == a"))),
                         "lock\nrequest cup; system == a\nquestion system == a\nenvironment a a 0\nnothing\nenvironment b a 0\n")

    def test_sections_can_have_other_versions(self):
        index = index_of(("tea", "1"))
        index.add(Parcel("tea", TWO, marker=Marker("system == north")))
        lock = lock_everywhere(index, row_of("tea"))
        self.assertEqual([[str(row[1]) for row in rows] for _, rows in lock.sections], [["1"], ["2"]])
        self.assertEqual([[str(row[1]) for row in rows] for _, rows in lock_everywhere(index, row_of("tea"), taste=Oldest()).sections], [["1"], ["1"]])
        self.assertEqual([[str(row[1]) for row in rows] for _, rows in lock_of(choose(index, row_of("tea"), HERE + (NORTH,))).sections], [["1"], ["1"]])
        kept = Keeping(standing("tea 1"))
        self.assertEqual(lock_everywhere(taste=kept, requests=row_of("tea"), source=index), lock_everywhere(index, row_of("tea"), taste=Oldest()))
        self.assertEqual(lock_everywhere(index, row_of("tea"), taste=Newest()), lock)

    def test_a_choice_made_before_the_source_went_on(self):
        index = index_of(("tea", "1", ("cup",)), ("cup", "1"))
        choice = choose(index, row_of("tea; level < 50"), HERE)
        text = str(lock_of(choice))
        index.add(Parcel("tea", THREE, marker=Marker("system == zz"), needs=row_of("new; machine == x")), Parcel("cup", ONE, "b", marker=Marker("level < 7")))
        index.withdraw("tea", ONE)
        self.assertEqual(str(lock_of(choice)), text)
        self.assertEqual(lock_of(choice).questions, ("always", "level < 50"))

    def test_equality_by_texts(self):
        locks = [lock for lock in map(made_lock, range(120)) if lock]
        for one, other in itertools.product(locks[:30], repeat=2):
            self.assertIs(one == other, str(one) == str(other))
            self.assertIs(one != other, str(one) != str(other))
        for thing in model.OTHERS + (0, str(locks[0]), Lock, Likes(), locks[0].sections):
            self.assertIs(locks[0] == thing, False)
            self.assertIs(locks[0] != thing, True)

    def test_errors(self):
        index, tea = index_of(("tea", "1")), Requirement("tea")
        lock = lock_everywhere(index, (tea,))
        for kind, given, requests in ((BadRequirement, None, None), (BadRequirement, [tea], [tea]), (BadRequirement, 5, (tea, 5, None)),
                                      (BadRequirement, "tea", ("tea",))):
            with self.assertRaises(kind) as held:
                lock_everywhere(index, requests)
            self.assertEqual(held.exception.given, given)
        for thing in model.OTHERS + (0, "a a 0", (SOUTH,), Environment, Likes()):
            with self.assertRaises(BadEnvironment) as held:
                lock.section_for(thing)
            self.assertIs(held.exception.given, thing)
            with self.assertRaises(BadEnvironment):
                lock_everywhere(index, ()).section_for(thing)
        with self.assertRaises(TypeError):
            lock_everywhere(index, (tea,), Oldest())

    def test_eight_cells_and_more(self):
        for many in (1, 2, 6, 7, 8, 9, 15):
            index = index_of(*[("tea", str(number + 1), (f"cup; level < {number * 6 + 5}",)) for number in range(many)], ("cup", "1"))
            if many < 8:
                lock = lock_everywhere(index, row_of("tea"))
                self.assertEqual([place.level for place, _ in lock.sections], [0] + [number * 6 + 5 for number in range(many)])
            else:
                with self.assertRaises(TooWide) as held:
                    lock_everywhere(index, row_of("tea"))
                self.assertEqual((held.exception.most, type(held.exception.most)), (8, int))
                with self.assertRaises(BadRequirement):
                    lock_everywhere(index, row_of("tea") + (None,))
        # Eight cells of three markers, and of a fourth one that holds where one of them does.
        index = index_of(("tea", "1", ("cup; system == b", "cup; machine == b", "cup; level < 9")), ("cup", "1"), ("pot", "1", ("cup; not system == b",)))
        self.assertEqual(len(lock_everywhere(index, row_of("tea", "pot")).sections), 8)
        with self.assertRaises(TooWide):
            lock_everywhere(index, row_of("tea", "pot; system == c"))

    def test_definitions_stand_where_they_are_listed(self):
        for thing in (Lock, lock_of, lock_everywhere, is_closed, differences):
            self.assertEqual(thing.__module__, "parcelindex.locks")
        for name in ("requests", "questions", "sections"):
            self.assertIsInstance(vars(Lock)[name], property)
        for name in ("__str__", "__eq__", "section_for", "read"):
            self.assertIn(name, vars(Lock))
        self.assertIsInstance(vars(Lock)["read"], staticmethod)


class ReadingTest(unittest.TestCase):
    SAMPLES = ("lock\nenvironment a a 0\n",
               "lock\nrequest tea\nrequest tea\nquestion always\nenvironment north big 99\nnothing\nenvironment a a 0\nrow a 1 - all 0\n",
               "lock\nrequest cup[ice,milk]>=1,<2; level < 3\nquestion always\nquestion level < 3\nenvironment a a 3\nenvironment a a 0\n"
               f"row a-1 1.4rc5 b,aa all {PRIME - 1}\nrow b 2 - x 17\nrow ba 3 c x 17\nenvironment b a 0\nnothing\n")

    def check(self, text):
        wanted = lock_model.wrong_line_of_lock(text)
        if wanted is None:
            self.assertEqual(str(Lock.read(text)), text)
            return 0
        with self.assertRaises(BadLock) as held:
            Lock.read(text)
        self.assertEqual(held.exception.line, wanted, text)
        self.assertIs(type(held.exception.line), int)
        return 1

    def test_lines_written_out(self):
        head = "lock\nenvironment a a 0\n"
        for text, line in (("", 1), ("\n", 1), ("lock", 2), ("loc", 1), ("lock\n", 2), ("lock \n", 1), ("Lock\n", 1), ("lock\n\n", 2), (head, None),
                           (head[:-1], 3), (head + "nothing", 4), (head + "nothing\n", None), (head + "nothing\nnothing\n", 4),
                           (head + "nothing\nrow a 1 - all 5\n", 4), (head + "row a 1 - all 5\nnothing\n", 4), (head + "row a 1 - all 5\n", None),
                           (head + "row a 1 - all 5", 4), (head + f"row a 1 - all {PRIME}\n", 3), (head + f"row a 1 - all {PRIME - 1}\n", None),
                           (head + "row a 1 - all 05\n", 3), (head + "row a 1 - all -5\n", 3), (head + f"row a 1 - all {bending.DIGITS}\n", 3),
                           (head + f"row a {bending.DIGITS} - all 5\n", 3), (head + "row a 1.0 - all 5\n", 3), (head + "row a 1 all 5\n", 3),
                           (head + "row a 1  all 5\n", 3), (head + "row a 1 - - all 5\n", 3), (head + "row a 1 b,a all 5\n", 3),
                           (head + "row a 1 a,b all 5\n", None), (head + "row a 1 a,a all 5\n", 3), (head + "row a 1 b,aa all 5\n", None),
                           (head + "row a 1 aa,b all 5\n", 3), (head + "row a 1 a, all 5\n", 3), (head + "row A 1 - all 5\n", 3),
                           (head + "row a 1 - All 5\n", 3), (head + "row a 1 - all 5 \n", 3), (head + "row  a 1 - all 5\n", 3),
                           (head + "row b 1 - all 5\nrow a 1 - all 5\n", 4), (head + "row b 1 - all 5\nrow b 2 - all 5\n", 4),
                           (head + "row b 1 - all 5\nrow b- 2 - all 5\n", None), (head + "row b 1 - all 5\nrow b 2", 4), (head + "row", 3),
                           (head + "environment a a 0\n", 3), (head + "environment a a 1\n", None), (head + "nothing\nenvironment a a 0\n", 4),
                           (head + "environment a a 00\n", 3), (head + f"environment a a {bending.DIGITS}\n", 3), (head + "environment a a 100\n", 3),
                           (head + "request tea\n", 3), (head + "question always\n", 3), ("lock\nrequest tea*\n", 2), ("lock\nrequest tea; always\n", 2),
                           ("lock\nrequest tea", 3), ("lock\nquestion always\nrequest tea\n", 3), ("lock\nquestion (always)\n", 2),
                           ("lock\nquestion b\n", 2), ("lock\nquestion never\nquestion always\n", 3), ("lock\nquestion never\nquestion never\n", 3),
                           ("lock\nquestion always\nquestion never", 4), (f"lock\nquestion level == {bending.DIGITS}\n", 2), ("lock\nnothing\n", 2),
                           (f"lock\nrequest tea=={bending.DIGITS}\n", 2), ("lock\nrow a 1 - all 5\n", 2), ("lock\r\nenvironment a a 0\n", 1),
                           (head + "nothing \n", 3), (head + "nothing\t\n", 3), (head + "\u00e9", 3), (head + "\n", 3), (" " + head, 1)):
            self.assertEqual(lock_model.wrong_line_of_lock(text), line, text)
            self.check(text)

    def test_bent_texts(self):
        locks = [str(lock) for lock in map(made_lock, range(60)) if lock]
        lines = ("lock", "request tea", "request a[b]<0a0", "question always", "question a", "question system == b", "environment a a 0",
                 "environment north a 0", "nothing", "row a 1 - all 5", "row zz 2rc1 a,b all 5", "row b 1 - all " + str(PRIME), "", "x",
                 "row b 1 - all " + bending.DIGITS, "environment a a " + bending.DIGITS, "\t")
        for text in self.SAMPLES + tuple(locks[:3]):
            self.check(text)
            for other in itertools.chain(bending.cut_off(text), bending.bent_lines(text, lines)):
                self.check(other)
        for other in itertools.chain(bending.bent_signs(self.SAMPLES[1], "a1 -,\n"), bending.bent_signs(self.SAMPLES[2], "a \n")):
            self.check(other)
        found = [self.check(text) for text in bending.bent_often(self.SAMPLES + tuple(locks), lines + ("\n", "a", "1", " ", "") * 3, 1500, 5)]
        self.assertGreater(found.count(0), 5)

    def test_other_objects(self):
        for thing in model.OTHERS + (0, Likes(), ["lock"], b"lock\nenvironment a a 0\n", Lock.read("lock\nenvironment a a 0\n")):
            with self.assertRaises(BadText) as held:
                Lock.read(text=thing)
            self.assertIs(held.exception.given, thing)

    def test_many_lines(self):
        self.check("lock\n" + "request tea\n" * 1600 + "environment a a 0\n")
        self.check("lock\n" + "request tea\n" * 1600)
        self.check("\n" * 20000)


class ClosedTest(unittest.TestCase):
    def check(self, requests, place, rows, parcels):
        wanted = lock_model.is_closed(requests, place, rows, parcels)
        self.assertIs(is_closed(requests, place, rows, parcels), wanted)
        return wanted

    def changed(self, chance, rows, index):
        """Rows with one thing changed."""
        made = [rows[:at] + rows[at + 1:] for at in range(len(rows))] + [()]
        for at, (name, version, extras, label, number) in enumerate(rows):
            others = [(name + "x", version, extras, label, number), (name, Version("9"), extras, label, number), (name, version, extras + ("zz",), label, number),
                      (name, version, extras[1:], label, number), (name, version, extras, label + "x", number), (name, version, extras, label, number + 1)]
            for other in index.versions_of(name):
                for parcel in index.parcels_of(name, other):
                    others.append((name, other, extras, parcel.label, parcel.digest))
            made += [rows[:at] + (other,) + rows[at + 1:] for other in others]
        for name in index.names():
            if name not in [row[0] for row in rows]:
                parcel = index.parcels_of(name, index.versions_of(name)[0])[0]
                more = rows + ((name, parcel.version, (), parcel.label, parcel.digest),)
                made.append(tuple(sorted(more, key=lambda row: row[0])))
        return chance.sample(made, min(14, len(made)))

    def test_rows_of_choices_and_changed_rows(self):
        counts = {True: 0, False: 0}
        for seed in range(350):
            source, requests, places, taste = choice_model.made_call(seed)
            lock, chance = made_lock(seed), random.Random(seed)
            if lock is None:
                continue
            parcels = tuple(parcel for name in source.names() for version in source.versions_of(name) for parcel in source.parcels_of(name, version))
            for place, rows in lock.sections:
                needed = tuple(parcel for parcel in parcels if parcel.digest in [row[4] for row in rows])
                self.assertIs(self.check(requests, place, rows, needed), True)
                self.assertIs(self.check(requests, place, rows, parcels[::-1]), True)
                for at in range(len(rows)):
                    self.assertIs(self.check(requests, place, rows, tuple(one for one in parcels if one.digest != rows[at][4])), False)
                for other in self.changed(chance, rows, source):
                    counts[self.check(requests, place, other, parcels)] += 1
                for other in choice_model.PLACES:
                    counts[self.check(requests, other, rows, parcels)] += 1
                for other in (requests[1:], requests + row_of("tea"), requests + row_of("cup[b]>1"), ()):
                    counts[self.check(other, place, rows, parcels)] += 1
        self.assertGreater(counts[True], 200)
        self.assertGreater(counts[False], 500)

    def test_admission_does_not_matter(self):
        index = index_of(("tea", "1", ("cup==2rc1",)), ("tea", "2rc1"), ("cup", "2rc1"))
        index.withdraw("tea", ONE)
        parcels = tuple(index.parcels_of(name, version)[0] for name, version in (("tea", ONE), ("tea", Version("2rc1")), ("cup", Version("2rc1"))))
        tea, early, cup = [(one.name, one.version, (), "all", one.digest) for one in parcels]
        for rows, right in (((cup, tea), True), ((early,), True), ((tea,), False), ((cup, early), False), ((), False)):
            self.assertIs(self.check(row_of("tea"), HERE[0], rows, parcels), right)
        self.assertIs(is_closed(parcels=parcels, rows=(cup, tea), environment=HERE[0], requests=row_of("tea")), True)

    def test_without_rows(self):
        self.assertIs(self.check((), HERE[0], (), ()), True)
        self.assertIs(self.check(row_of("tea; never"), HERE[0], (), ()), True)
        self.assertIs(self.check(row_of("tea"), HERE[0], (), ()), False)

    def test_names_in_circles_are_not_reached(self):
        index = index_of(("a", "1", ("b",)), ("b", "1", ("a",)), ("c", "1"))
        parcels = tuple(index.parcels_of(name, ONE)[0] for name in "abc")
        rows = tuple((one.name, ONE, (), "all", one.digest) for one in parcels)
        for names, texts, right in (("ab", ("a",), True), ("abc", ("c",), False), ("c", ("c",), True), ("ab", (), False), ("abc", ("b", "c"), True)):
            self.assertIs(self.check(row_of(*texts), HERE[0], tuple(row for row in rows if row[0] in names), parcels), right)

    def test_a_name_with_two_rows(self):
        parcel = Parcel("tea", ONE)
        rows = (("tea", ONE, (), "all", parcel.digest),)
        self.assertIs(is_closed(row_of("tea"), HERE[0], rows, (parcel,)), True)
        self.assertIs(is_closed(row_of("tea"), HERE[0], rows * 2, (parcel,)), False)

    def test_parcels_whose_markers_do_not_hold(self):
        parcel = Parcel("tea", ONE, marker=Marker("system == north"))
        rows = (("tea", ONE, (), "all", parcel.digest),)
        self.assertIs(self.check(row_of("tea"), NORTH, rows, (parcel,)), True)
        self.assertIs(self.check(row_of("tea"), SOUTH, rows, (parcel,)), False)


class DifferencesTest(unittest.TestCase):
    def test_all_words(self):
        old = (("a", ONE, (), "all", 1), ("b", ONE, (), "all", 2), ("c", ONE, (), "all", 3), ("d", TWO, (), "all", 4), ("f", TWO, (), "all", 9))
        new = (("a", ONE, ("x",), "big", 1), ("b", TWO, (), "all", 2), ("c", ONE, (), "all", 5), ("e", THREE, (), "all", 4), ("f", ONE, (), "all", 8))
        self.assertEqual(differences(old, new), (("changed", "b", ONE, TWO), ("changed", "c", ONE, ONE), ("removed", "d", TWO, None),
                                                 ("added", "e", None, THREE), ("changed", "f", TWO, ONE)))
        self.assertEqual(differences(new=old, old=new), (("changed", "b", TWO, ONE), ("changed", "c", ONE, ONE), ("added", "d", None, TWO),
                                                         ("removed", "e", THREE, None), ("changed", "f", ONE, TWO)))
        self.assertEqual(differences(old, old), ())
        self.assertEqual(differences((), old[:2]), (("added", "a", None, ONE), ("added", "b", None, ONE)))
        self.assertEqual(differences(old[:2], ()), (("removed", "a", ONE, None), ("removed", "b", ONE, None)))
        self.assertEqual(differences((), ()), ())

    def test_many(self):
        chance = random.Random(4)
        for _ in range(500):
            sides = [tuple((name, chance.choice((ONE, TWO)), (), "all", chance.choice((1, 2))) for name in "abcdef" if chance.random() < 0.7) for _ in "on"]
            old, new = [{row[0]: row for row in side} for side in sides]
            wanted = []
            for name in sorted(set(old) | set(new)):
                if name not in old:
                    wanted.append(("added", name, None, new[name][1]))
                elif name not in new:
                    wanted.append(("removed", name, old[name][1], None))
                elif old[name][1] != new[name][1] or old[name][4] != new[name][4]:
                    wanted.append(("changed", name, old[name][1], new[name][1]))
            self.assertEqual(differences(*sides), tuple(wanted))


if __name__ == "__main__":
    unittest.main()
