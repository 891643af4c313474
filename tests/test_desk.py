"""The desk: commands against a second reading of their table, with a shop, a disk and an installer of the test's own."""

import random
import re
import unittest

import disk_model
import model
import worlds
from choice_model import HERE, Likes
from parcelindex import errors
from parcelindex.audits import faults
from parcelindex.desk import Desk
from parcelindex.disks import Disk
from parcelindex.environments import Environment
from parcelindex.installers import Installer
from parcelindex.parcels import Parcel
from parcelindex.reports import table
from parcelindex.requirements import Requirement
from parcelindex.sources import Index
from parcelindex.versions import Version

PART = "([^ ]+)"
NUMBER = "(0|[1-9][0-9]{0,8})"
FORMS = {"add": "add ((?:[^\\\\]|\\\\\\\\|\\\\n)*)", "withdraw": f"withdraw {PART} {PART}", "restore": f"restore {PART} {PART}",
         "environment": f"environment {PART} {PART} {PART}", "install": "install (.*)", "remove": f"remove {PART}", "upgrade": f"upgrade(?: {PART})?",
         "rollback": f"rollback {NUMBER}", "cut": f"cut {NUMBER}", "power": "power", "recover": f"recover {PART}", "mark": f"mark {PART}",
         "unmark": f"unmark {PART}", "show": "show", "faults": "faults", "why": f"why {PART}", "read": f"read {PART}", "paths": "paths"}
TEA = "add parcel tea 1 all\\nfor always\\nneed cup\\nfile a/b 5\\nx\\\\y\\nz\\n"
CUP = "add parcel cup 1 all\\nfor level < 5\\nfile c 0\\n\\n"


def escaped(text):
    return "".join({"\\": "\\\\", "\n": "\\n"}.get(sign, sign) for sign in text)


class Shadow:
    """A second desk, which uses the program behind the desk by itself."""

    def __init__(self):
        self.index, self.disk, self.place = Index(), Disk(), Environment()

    def execute(self, command):
        if not isinstance(command, str):
            return "bad command"
        for word in FORMS:
            found = re.fullmatch(FORMS[word], command, re.DOTALL)
            if found:
                try:
                    answer = getattr(self, word)(*[part for part in found.groups() if part is not None])
                except errors.NoChoice as error:
                    return "no choice " + ",".join(map(str, error.clash.places))
                except (errors.ParcelError, errors.ChoiceError, errors.AbsentError) as error:
                    return re.sub("(?<!^)([A-Z])", " \\1", type(error).__name__).lower()
                return escaped("done" if answer is None else str(answer))
        return "bad command"

    @property
    def installer(self):
        return Installer(self.disk, self.index, self.place)

    def add(self, text):
        self.index.add(Parcel.read(re.sub("\\\\(.)", lambda found: "\n" if found[1] == "n" else "\\", text)))

    def withdraw(self, name, version):
        self.index.withdraw(name, Version(version))

    def restore(self, name, version):
        self.index.restore(name, Version(version))

    def environment(self, *parts):
        if not re.fullmatch("0|[1-9][0-9]?", parts[2]):
            raise errors.BadEnvironment(parts)
        self.place = Environment(system=parts[0], machine=parts[1], level=int(parts[2]))

    def told(self, rows):
        return ", ".join(" ".join("-" if part is None else str(part) for part in row) for row in rows) or "nothing"

    def install(self, text):
        return self.told(self.installer.install(Requirement(text)))

    def remove(self, name):
        return self.told(self.installer.remove(name))

    def upgrade(self, *names):
        return self.told(self.installer.upgrade(*names))

    def rollback(self, number):
        return self.told(self.installer.rollback(int(number)))

    def cut(self, number):
        self.disk.cut_after(int(number))

    def power(self):
        self.disk.power_on()

    def recover(self, way):
        return self.installer.recover(way)

    def mark(self, word):
        self.installer.mark(word)

    def unmark(self, word):
        self.installer.unmark(word)

    def show(self):
        return table(self.installer.base_now()) or "nothing"

    def faults(self):
        return ", ".join(" ".join(map(str, fault)) for fault in faults(self.disk)) or "sound"

    def why(self, name):
        return " ".join(self.installer.why(name))

    def read(self, path):
        return self.disk.text_at(path)

    def paths(self):
        return " ".join(self.disk.paths()) or "nothing"


class DeskTest(unittest.TestCase):
    def answers(self, *commands):
        desk = Desk()
        return [desk.execute(command) for command in commands]

    def test_drawn_commands(self):
        told = {}
        for seed in range(60):
            chance = random.Random(seed)
            desk, shadow = Desk(), Shadow()
            names = worlds.NAMES[:chance.choice((2, 3, 4))]
            for _ in range(60):
                command = self.made_command(chance, names, shadow)
                wanted = shadow.execute(command)
                self.assertEqual(desk.execute(command), wanted, command)
                kind = wanted if wanted in ("done", "nothing", "sound") or wanted.startswith(("bad ", "no ")) else "other"
                told[kind] = told.get(kind, 0) + 1
            self.assertEqual(disk_model.texts_of(desk.disk), disk_model.texts_of(shadow.disk))
            self.assertEqual(list(desk.shop.since(0)), list(shadow.index.since(0)))
        for kind in ("done", "nothing", "sound", "other", "bad command", "bad version", "bad environment", "bad requirement", "bad parcel", "bad way", "bad name",
                     "no release", "no request", "no name", "no past", "no mark", "no path", "no choice 0"):
            self.assertGreater(told.get(kind, 0), 1, (kind, told))

    def made_command(self, chance, names, shadow):
        name, version = chance.choice(names), chance.choice(("1", "2", "3", "1.0", "2rc1", "x", "1.01"))
        wide = names + ("zz", "A", "")
        made = (["add " + escaped(worlds.made_parcel(chance, name, chance.choice(("1", "2", "3")), chance.choice(("all", "big")), names).text)] * 8
                + ["install " + str(worlds.made_requirement(chance, names))] * 8 + [f"remove {chance.choice(wide)}", "upgrade", f"upgrade {chance.choice(wide)}"]
                + [f"withdraw {name} {version}", f"restore {name} {version}", f"withdraw {chance.choice(wide)} {version}"]
                + [f"environment {chance.choice(('a', 'north', 'A'))} a {chance.choice(('0', '3', '7', '07', '100', '-1'))}"]
                + [f"rollback {chance.choice((0, 1, 2, 3, 4, 5, 77))}"] * 3 + [f"cut {chance.choice((0, 2, 4, 6, 8, 999999999))}", "power", "power", "power"]
                + [f"recover {chance.choice(('finish', 'undo', 'x'))}"] * 3 + [f"{chance.choice(('mark', 'unmark'))} {chance.choice(('a', 'b', 'A'))}"] * 2
                + ["show", "faults", "faults", "paths", f"why {chance.choice(wide)}", f"read {chance.choice(sorted(shadow.disk.paths()) or ['x'])}", "read x"]
                + ["install tea>", "install  tea", "install ", "install", "add ", "add x", "add x\\", "add \\x", "add", "", " ", "show ", " show", "Show"])
        command = chance.choice(made)
        if chance.random() < 0.1:
            at = chance.randrange(len(command) + 1)
            command = command[:at] + chance.choice((" ", "x", "\n", "\\", "0", "")) + command[at + chance.randint(0, 1):]
        return command

    def test_commands_written_out(self):
        desk = Desk()
        for command, answer in ((TEA, "done"), (TEA, "taken"), ("install tea", "no choice 0"), (CUP, "done"), ("install tea>1", "no choice 0"),
                                ("install tea", "added cup - 1, added tea - 1"), ("install tea", "nothing"), ("show", f"cup{' ' * 29}1 all          -\\ntea{' ' * 29}1 all          -"),
                                ("read site/a/b", "x\\\\y\\nz"), ("read site/c", ""), ("why cup", "tea cup"), ("why zz", "no name"), ("read site/x", "no path"),
                                ("mark a", "done"), ("mark a", "taken"), ("mark A", "bad name"), ("unmark b", "no mark"), ("faults", "sound"),
                                ("environment a a 5", "done"), ("upgrade", "no choice 0"), ("environment a a 4", "done"), ("upgrade", "nothing"), ("read past/0", "base 0\\n"), ("add " + CUP[4:].replace("cup 1", "cup 2"), "done"), ("upgrade cup", "changed cup 1 2"), ("remove cup", "no request"), ("remove tea", "removed cup 2 -, removed tea 1 -"),
                                ("show", "nothing"), ("rollback 3", "added cup - 2, added tea - 1"), ("rollback 0", "removed cup 2 -, removed tea 1 -"), ("rollback 9", "no past"),
                                ("withdraw tea 1", "done"), ("withdraw tea 1.0", "taken"), ("withdraw tea 2", "no release"), ("withdraw zz x", "bad version"), ("restore tea 1", "done"),
                                ("restore tea 1", "taken"), ("install tea; level < 3", "nothing"), ("install tea;level < 3", "bad requirement"), ("install tea ", "bad requirement"),
                                ("unmark a", "done"), ("recover finish", "7"), ("recover undo", "7"), ("recover Finish", "bad way"), ("power", "done")):
            self.assertEqual(desk.execute(command), answer, command)
        self.assertEqual(desk.execute("read base"), "base 7\\nenvironment a a 4\\nrequest tea; level < 3\\n")
        self.assertEqual(desk.execute("paths"), "base past/1 past/2 past/3 past/4 past/5 past/6 " + " ".join(desk.disk.paths("store/")))

    def test_paths_faults_and_cuts(self):
        desk = Desk()
        self.assertEqual([desk.execute(command) for command in ("paths", "show", "faults", TEA, CUP, "install tea", "cut 3", "remove tea", "paths")][:8],
                         ["nothing", "nothing", "sound", "done", "done", "added cup - 1, added tea - 1", "done", "power cut"])
        self.assertEqual(desk.execute("faults"), "journal")
        self.assertEqual([desk.execute(command) for command in ("install cup", "mark a", "unmark a", "power", "install cup", "rollback 0", "recover undo", "faults", "show")],
                         ["pending"] * 3 + ["done"] + ["pending"] * 2 + ["1", "sound", f"cup{' ' * 29}1 all          -\\ntea{' ' * 29}1 all          -"])
        desk.disk.write("past/9", "x")
        desk.disk.write("past/x-", "x")
        desk.disk.remove("site/c")
        desk.disk.write("base", desk.disk.text_at("base").replace("request tea", "request tea>1\nrequest zz"))
        self.assertEqual(desk.execute("faults"), "site c, claim  tea>1, claim  zz, waste past/9, waste past/x-")
        self.assertEqual([desk.execute(command) for command in ("install tea", "remove zz", "upgrade", "rollback 0", "mark a")], ["damaged"] * 5)
        desk.disk.write("base", "x")
        self.assertEqual([desk.execute(command) for command in ("show", "why tea", "recover finish", "faults", "install tea")],
                         ["bad base", "bad base", "damaged", "base", "damaged"])

    def test_path_clash_and_foreign(self):
        desk = Desk()
        for command, answer in ((TEA, "done"), (CUP, "done"), ("add parcel mug 1 all\\nfor always\\nfile c 1\\nz\\n", "done"), ("install tea", "added cup - 1, added tea - 1"),
                                ("install mug", "path clash"), ("remove tea", "removed cup 1 -, removed tea 1 -"), ("install mug", "added mug - 1"), ("install tea", "path clash"),
                                ("remove mug", "removed mug 1 -")):
            self.assertEqual(desk.execute(command), answer, command)
        desk.disk.write("site/c", "z")
        self.assertEqual(desk.execute("install mug"), "foreign")
        self.assertEqual(desk.execute("install zz"), "no choice 0")

    def test_places_of_a_clash(self):
        desk = Desk()
        for command in ["add parcel a 1 all\\nfor always\\nneed c<2\\n", "add parcel b 1 all\\nfor always\\nneed c>1\\n"] + [f"add parcel c {number} all\\nfor always\\n" for number in (1, 2)]:
            self.assertEqual(desk.execute(command), "done")
        self.assertEqual([desk.execute(f"install {name}") for name in ("c", "a", "b", "b>1", "c<1")],
                         ["added c - 2", "added a - 1, changed c 2 1", "no choice 1,2", "no choice 2", "no choice 0"])

    def test_not_closed(self):
        desk = Desk()
        for command in (TEA, CUP, "install tea", "install cup"):
            desk.execute(command)
        desk.disk.write("past/1", "base 1\nenvironment a a 0\nrequest tea\n")
        self.assertEqual(desk.execute("rollback 1"), "not closed")

    def test_every_other_string(self):
        desk = Desk()
        right = [TEA, "withdraw tea 1", "restore tea 1", "environment a a 0", "install tea", "remove tea", "upgrade", "upgrade tea", "rollback 0", "cut 0", "power",
                 "recover finish", "mark a", "unmark a", "show", "faults", "why tea", "read base", "paths"]
        for command in right:
            word = command.split(" ")[0]
            wrong = [" " + command, command.upper(), command.replace(word, word + "x"), command.replace(word, word[:-1]), "\n" + command, command.replace(word, word.title())]
            if word not in ("add", "install"):
                wrong += [command + " ", command.replace(" ", "  ", 1) if " " in command else command + "  ", command + " x y", command + " x y z w"]
            if word in ("show", "power", "faults", "paths"):
                wrong += [command + "\n", command + " x", command + "\\n"]
            if word in ("withdraw", "restore", "environment"):
                wrong += [command + " x", command.rsplit(" ", 1)[0], word, command.replace(" ", "\n")]
            if word in ("remove", "rollback", "cut", "recover", "mark", "unmark", "why", "read", "install", "add"):
                wrong += [word]
            if word in ("rollback", "cut"):
                wrong += [f"{word} {text}" for text in ("00", "01", "-1", "+1", "1.0", "x", "1000000000", "0" * 10, "9" * 10, "9" * 5000, "1 ", "1\n", "\u0661", "1_0", "")]
            for other in wrong:
                self.assertEqual(desk.execute(other), "bad command", other)
        for thing in model.OTHERS + (0, Likes(), b"show", ["show"], ("show",), "", " ", "\n", "help", "add", "install", "done", "bad command", "show show"):
            self.assertEqual(desk.execute(thing), "bad command")
            self.assertEqual(desk.execute(command=thing), "bad command")
        self.assertEqual((desk.disk.acts, desk.shop.event_count), (0, 0))

    def test_backslashes_in_text(self):
        for rest, answer in (("", "bad parcel"), ("x", "bad parcel"), ("\\", "bad command"), ("\\x", "bad command"), ("\\\\", "bad parcel"), ("\\n", "bad parcel"), ("\\\\\\", "bad command"),
                             ("x\\N", "bad command"), ("parcel a 1 all\\nfor always\\nfile p 2\\n\\\\\\\\\\n", "done"), ("parcel a 1 all\\nfor always\\nfile p 2\\n\\\\n\\n", "done"),
                             ("parcel a 1 all\\nfor always", "bad parcel"), ("parcel a 1 all\\nfor always\\n ", "bad parcel"), (" parcel a 1 all\\nfor always\\n", "bad parcel"),
                             ("parcel a 1 all\\nfor always\\nfile p 3\\na b\\n", "done"), ("parcel a 1 all\\nfor always\\nfile p 1\\n\u00e9\\n", "bad parcel")):
            self.assertEqual(self.answers("add " + rest), [answer], rest)
        desk = Desk()
        for command in ("add parcel a 1 all\\nfor always\\nfile p 2\\n\\\\\\\\\\nfile q 2\\n\\\\n\\nfile r 4\\n\\n\\\\n\\n\\n", "install a"):
            desk.execute(command)
        self.assertEqual([desk.disk.text_at(f"site/{path}") for path in "pqr"], ["\\\\", "\\n", "\n\\n\n"])
        self.assertEqual([desk.execute(f"read site/{path}") for path in "pqr"], ["\\\\\\\\", "\\\\n", "\\n\\\\n\\n"])

    def test_numbers(self):
        desk = Desk()
        for text in ("0", "5", "999999999"):
            self.assertEqual(desk.execute(f"cut {text}"), "done")
            self.assertEqual(desk.execute(f"rollback {text}"), "no past")
        self.assertEqual(self.answers("environment a a 99", "environment a a 100", "environment a a 00", "environment a1 a 0", "environment a A 0", "environment a a x",
                                      "environment abcdefghijkl zz 5", "environment abcdefghijklm a 0"),
                         ["done"] + ["bad environment"] * 5 + ["done", "bad environment"])

    def test_the_environment_is_that_of_the_desk(self):
        desk = Desk()
        for command, answer in (("add parcel a 1 x\\nfor system == b\\n", "done"), ("add parcel a 1 y\\nfor machine == c\\n", "done"), ("install a", "no choice 0"),
                                ("environment b a 0", "done"), ("install a", "added a - 1"), ("environment z z 1000", "bad environment"), ("upgrade", "nothing"),
                                ("environment a c 0", "done"), ("upgrade", "changed a 1 1"), ("rollback 1", "changed a 1 1"), ("show", f"a{' ' * 31}1 x            -")):
            self.assertEqual(desk.execute(command), answer, command)

    def test_execute_all(self):
        desk = Desk()
        told = desk.execute_all(TEA, CUP, "install tea", 5, "paths")
        self.assertEqual(desk.shop.event_count, 0)
        self.assertEqual(next(told), "done")
        self.assertEqual((desk.shop.event_count, desk.disk.acts), (1, 0))
        self.assertEqual((next(told), next(told)), ("done", "added cup - 1, added tea - 1"))
        desk.disk.write("zz", "x")
        self.assertEqual(list(told), ["bad command", " ".join(desk.disk.paths())])
        self.assertEqual(list(desk.execute_all()), [])
        self.assertEqual(list(desk.execute_all("show", None)), [desk.execute("show"), "bad command"])

    def test_desks_are_apart(self):
        one, other = Desk(), Desk()
        for command in (TEA, CUP, "install tea", "environment b b 1"):
            one.execute(command)
        self.assertEqual((other.shop.event_count, len(other.disk)), (0, 0))
        self.assertEqual((type(one.shop), type(one.disk), one.disk.room), (Index, Disk, None))
        self.assertEqual([one.shop.parcel_for("tea", Version("1"), HERE[0]).name, one.disk.text_at("site/c")], ["tea", ""])

    def test_example(self):
        desk = Desk()
        self.assertEqual([desk.execute("add parcel tea 1 all\\nfor always\\nfile cup 3\\nhot\\n"), desk.execute("install tea"), desk.execute("cut 2")],
                         ["done", "added tea - 1", "done"])
        self.assertEqual([desk.execute("remove tea"), desk.execute("power"), desk.execute("recover finish"), desk.execute("show"), desk.execute("faults")],
                         ["power cut", "done", "2", "nothing", "sound"])

    def test_class_has_its_methods_itself(self):
        for name in ("__init__", "execute", "execute_all", "shop", "disk"):
            self.assertIn(name, vars(Desk))
        for name in ("shop", "disk"):
            self.assertIsInstance(vars(Desk)[name], property)
        self.assertEqual(Desk.__module__, "parcelindex.desk")


if __name__ == "__main__":
    unittest.main()
