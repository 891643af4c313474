"""Tables of bases and summaries of locks."""

import unittest

import choice_model
import lock_model
import worlds
from choice_model import HERE, NORTH, index_of, row_of
from parcelindex.bases import Base
from parcelindex.choosing import choose
from parcelindex.disks import Disk
from parcelindex.locks import Lock, lock_everywhere, lock_of
from parcelindex.markers import Marker
from parcelindex.parcels import Parcel
from parcelindex.reports import lock_summary, table
from parcelindex.requirements import Requirement
from parcelindex.sources import Index
from parcelindex.versions import Version


def base_of(*rows):
    return Base.read("base 5\nenvironment a a 0\n" + "".join(f"row {row}\n" for row in rows))


class TableTest(unittest.TestCase):
    def test_written_out(self):
        self.assertEqual(table(base_of("tea 1 - all 5")), "tea                             1 all          -")
        self.assertEqual(table(base=base_of("a 1.2rc3 ice,milk b 0", "b 999.999.999.999rc999 - abcdefghijkl 7", "tea-2 999.999.999 x big 5")),
                         "a                          1.2rc3 b            ice,milk\n"
                         "b                    999.999.999.999rc999 abcdefghijkl -\n"
                         "tea-2                 999.999.999 big          x")
        self.assertEqual(table(base_of("abcdefghij0123456-89 1.22.333.444 b,aa x 5")), "abcdefghij0123456-89 1.22.333.444 x            b,aa")

    def test_without_rows(self):
        self.assertEqual(table(base_of()), "")
        self.assertEqual(table(Base.of(Disk())), "")
        self.assertEqual(table(Base.read("base 0\n")), "")

    def test_many(self):
        for seed in range(40):
            _, disk, _, _ = worlds.made_world(seed, 6)
            base = Base.of(disk)
            lines = [f"{name:<20} {str(version):>12} {label:<12} {','.join(extras) or '-'}" for name, version, extras, label, _ in base.rows]
            self.assertEqual(table(base), "\n".join(lines))


class SummaryTest(unittest.TestCase):
    def test_written_out(self):
        index = index_of(("tea", "1.5", ("cup",)), ("cup", "2"))
        index.add(Parcel("tea", Version("2"), marker=Marker("system == north"), needs=row_of("zz")), Parcel("pot", Version("3rc1"), marker=Marker("system == b")))
        self.assertEqual(lock_summary(lock_everywhere(index, row_of("tea>1", "pot==3rc1; system == b"))), "a a 0: cup 2, tea 1.5\nb a 0: cup 2, pot 3rc1, tea 1.5\n"
                         "north a 0: cup 2, tea 1.5")
        self.assertEqual(lock_summary(lock_everywhere(index, row_of("tea>=2", "pot"))), "a a 0: nothing\nb a 0: nothing\nnorth a 0: nothing")
        self.assertEqual(lock_summary(lock=lock_everywhere(index, row_of("pot>0; system != a"))), "a a 0: \nb a 0: nothing\nc a 0: nothing")
        self.assertEqual(lock_summary(lock_of(choose(index, row_of("tea"), (NORTH,) + HERE))), "north a 0: cup 2, tea 1.5\na a 0: cup 2, tea 1.5")
        self.assertEqual(lock_summary(Lock.read("lock\nenvironment b c 7\nenvironment a a 0\nnothing\n")), "b c 7: \na a 0: nothing")

    def test_many(self):
        for seed in range(60):
            source, requests, _, taste = choice_model.made_call(seed)
            lock = lock_everywhere(source, requests, taste=taste)
            lines = []
            for line in str(lock).split("\n"):
                word, _, rest = line.partition(" ")
                if word == "environment":
                    lines.append([rest + ": ", []])
                elif word == "row":
                    lines[-1][1].append(" ".join(rest.split(" ")[:2]))
                elif word == "nothing":
                    lines[-1][1].append(word)
            self.assertEqual(lock_summary(lock), "\n".join(front + ", ".join(rows) for front, rows in lines))

    def test_example(self):
        index = Index()
        index.add(Parcel("tea", Version("1")), Parcel("tea", Version("2"), marker=Marker("system == north")))
        self.assertEqual(lock_summary(lock_everywhere(index, (Requirement("tea"),))), "a a 0: tea 1\nnorth a 0: tea 2")
        self.assertEqual(lock_model.cells_of(("system == north",))[1], NORTH)

    def test_definitions_stand_where_they_are_listed(self):
        self.assertEqual((table.__module__, lock_summary.__module__), ("parcelindex.reports",) * 2)


if __name__ == "__main__":
    unittest.main()
