"""The form of the program's code: those rules of ../shared/LANGUAGE.md that are easy to look up."""

import ast
import builtins
import pathlib
import re
import unittest

PACKAGE = pathlib.Path(__file__).resolve().parent.parent / "parcelindex"

BUILTINS = set("""len range enumerate zip min max sum abs sorted reversed int str bool bytes list tuple dict set frozenset
    isinstance ord repr any all divmod pow getattr hasattr setattr iter next map type super property staticmethod
    classmethod object float Exception ValueError TypeError KeyError IndexError LookupError ZeroDivisionError
    ArithmeticError OverflowError RuntimeError NotImplementedError AttributeError StopIteration NotImplemented""".split())
LIBRARY = {
    "heapq": {"heappush", "heappop", "heapify", "heapreplace", "heappushpop"},
    "math": {"gcd", "lcm", "isqrt", "comb", "perm", "factorial"},
    "itertools": {"product", "combinations", "permutations", "chain", "accumulate", "pairwise", "islice", "zip_longest"},
    "collections": {"defaultdict", "deque"},
    "__future__": {"annotations"},
}
OPERATORS = set("lt le gt ge ne add sub mul floordiv mod pow and or xor lshift rshift neg pos invert abs bool contains "
                "getitem setitem".split())
REFLECTED = set("add sub mul floordiv mod and or xor lshift rshift".split())
DOUBLE = ({f"__{name}__" for name in "init eq repr str len enter exit call iter".split()}
          | {f"__{name}__" for name in OPERATORS}
          | {f"__r{name}__" for name in REFLECTED} | {f"__i{name}__" for name in REFLECTED | {"pow"}})
METHODS = set("""append clear copy count endswith extend find get index insert isalnum isalpha isdigit islower isspace
    isupper items join keys ljust lower lstrip partition pop remove replace reverse rfind rjust rpartition rsplit rstrip
    setdefault split splitlines startswith strip update upper values zfill bit_length title capitalize swapcase casefold
    center expandtabs removeprefix removesuffix rindex isascii isdecimal isnumeric istitle isidentifier isprintable add
    discard""".split())
BARRED = set("""register mro elements open input law version_info with_traceback add_note attrgetter breakpoint builtins
    compile copyright credits delattr dir eval exec exit gc globals help id importlib license locals methodcaller os quit
    vars sys typing enum namedtuple chr""".split())
BUILTIN_NAMES = {name for name in dir(builtins) if not name.startswith("_")}
STATEMENTS = (ast.ImportFrom, ast.FunctionDef, ast.ClassDef, ast.Assign, ast.Expr)
NODES = (ast.AsyncFunctionDef, ast.AsyncFor, ast.AsyncWith, ast.Await, ast.Div, ast.MatMult, ast.Import, ast.Global)


def trees():
    for path in sorted(PACKAGE.glob("*.py")):
        yield path.name, ast.parse(path.read_text(encoding="utf-8"))


def docstrings(tree):
    """The nodes of all docstrings."""
    found = []
    for node in ast.walk(tree):
        if isinstance(node, (ast.Module, ast.ClassDef, ast.FunctionDef)) and ast.get_docstring(node) is not None:
            found.append(node.body[0].value)
    return found


def bound_names(tree):
    """All names that a file gives a meaning."""
    found = set()
    for node in ast.walk(tree):
        if isinstance(node, (ast.FunctionDef, ast.ClassDef)):
            found.add(node.name)
        elif isinstance(node, ast.arg):
            found.add(node.arg)
        elif isinstance(node, ast.Name) and isinstance(node.ctx, ast.Store):
            found.add(node.id)
        elif isinstance(node, ast.alias):
            found.add(node.asname or node.name)
        elif isinstance(node, ast.ExceptHandler) and node.name:
            found.add(node.name)
    return found


def parents(tree):
    """For each node the one in which it stands."""
    return {child: node for node in ast.walk(tree) for child in ast.iter_child_nodes(node)}


def called(node):
    """The name of what is called, or an empty text."""
    if not isinstance(node, ast.Call):
        return ""
    return node.func.id if isinstance(node.func, ast.Name) else node.func.attr if isinstance(node.func, ast.Attribute) else ""


def methods_of_kind(kind):
    """The names of the methods with this decorator, or with none for an empty text."""
    found = set()
    for _, tree in trees():
        for node in ast.walk(tree):
            for one in node.body if isinstance(node, ast.ClassDef) else ():
                if isinstance(one, ast.FunctionDef):
                    signs = [sign.id for sign in one.decorator_list if isinstance(sign, ast.Name)] or [""]
                    found |= {one.name} if kind in signs else set()
    return found


def generators():
    """The names of the functions that yield."""
    return [node.name for _, tree in trees() for node in ast.walk(tree) if isinstance(node, ast.FunctionDef)
            and any(isinstance(one, (ast.Yield, ast.YieldFrom)) for one in ast.walk(node))]


def is_iterated(node, above):
    """Whether a call stands where it is iterated at once."""
    parent = above[node]
    if isinstance(parent, (ast.For, ast.comprehension)):
        return parent.iter is node
    return called(parent) in ("list", "tuple", "dict", "sorted", "sum", "min", "max", "any", "all", "enumerate", "zip", "combinations")


def is_plain(node):
    """Whether it is plain that something can be ordered: numbers, strings, or a list of such."""
    if isinstance(node, ast.ListComp):
        return is_plain(node.elt)
    return isinstance(node, ast.Constant) or called(node) in ("int", "str", "len", "ord", "repr", "range")


class LanguageTest(unittest.TestCase):
    def test_folder(self):
        for path in PACKAGE.iterdir():
            if path.name != "__pycache__":
                self.assertRegex(path.name, "^([a-z][a-z0-9_]*|__init__|__main__)[.]py$")
                self.assertFalse(path.stem in BUILTIN_NAMES, path.name)
        self.assertTrue((PACKAGE / "__init__.py").is_file())

    def test_characters_and_sizes(self):
        for path in sorted(PACKAGE.glob("*.py")):
            text = path.read_bytes().decode("ascii")
            self.assertEqual([sign for sign in text if not (" " <= sign <= "~" or sign == "\n")], [], path.name)
            lines = text.splitlines()
            self.assertLessEqual(len(lines), 399, path.name)
            self.assertLessEqual(max(map(len, lines)), 120, path.name)
        for name, tree in trees():
            for node in ast.walk(tree):
                if isinstance(node, ast.FunctionDef):
                    self.assertLessEqual(node.end_lineno - node.lineno + 1, 40, (name, node.name))

    def test_imports(self):
        uses = {}
        for name, tree in trees():
            uses[name] = []
            for node in ast.walk(tree):
                if not isinstance(node, ast.ImportFrom):
                    continue
                self.assertEqual((node.level, node.col_offset), (0, 0), name)
                names = {alias.name for alias in node.names}
                if node.module in LIBRARY:
                    self.assertLessEqual(names, LIBRARY[node.module], name)
                    continue
                self.assertRegex(node.module, "^parcelindex[.][a-z]+$", name)
                source = ast.parse((PACKAGE / (node.module.split(".")[1] + ".py")).read_text())
                made = {one.name for one in source.body if isinstance(one, (ast.FunctionDef, ast.ClassDef))}
                made |= {one.targets[0].id for one in source.body if isinstance(one, ast.Assign)}
                self.assertLessEqual(names, made, (name, node.module))
                uses[name].append(node.module.split(".")[1] + ".py")
        while uses:
            free = [name for name in uses if not set(uses[name]) & set(uses)]
            self.assertTrue(free, f"these import one another: {sorted(uses)}")
            uses = {name: rows for name, rows in uses.items() if name not in free}

    def test_module_level(self):
        for name, tree in trees():
            seen = set()
            for node in tree.body:
                self.assertIsInstance(node, STATEMENTS, name)
                if isinstance(node, ast.Expr):
                    self.assertIn(node.value, docstrings(tree), name)
                if isinstance(node, ast.Assign):
                    self.assertEqual(len(node.targets), 1, name)
                    self.assertIsInstance(node.targets[0], ast.Name, name)
                names = [alias.name for alias in getattr(node, "names", [])]
                names += [node.name] if hasattr(node, "name") else []
                names += [node.targets[0].id] if isinstance(node, ast.Assign) else []
                for one in names:
                    self.assertNotIn(one, seen, name)
                    seen.add(one)

    def test_names_and_builtins(self):
        for name, tree in trees():
            bound = bound_names(tree)
            for one in bound:
                self.assertFalse(one in BUILTIN_NAMES | BARRED, (name, one))
                self.assertTrue(re.fullmatch("_?[A-Za-z][A-Za-z0-9_]*|_", one) or one in DOUBLE, (name, one))
            for node in ast.walk(tree):
                if isinstance(node, ast.Name) and node.id not in bound:
                    self.assertIn(node.id, BUILTINS, (name, node.lineno))
                if isinstance(node, ast.FunctionDef) and node.name.startswith("__"):
                    self.assertIn(node.name, DOUBLE, name)
                for sign in getattr(node, "decorator_list", []):
                    self.assertTrue(isinstance(sign, ast.Attribute) and sign.attr == "setter"
                                    or isinstance(sign, ast.Name)
                                    and sign.id in ("property", "staticmethod", "classmethod"), (name, node.name))

    def test_methods(self):
        own = {node.name for _, tree in trees() for node in ast.walk(tree) if isinstance(node, ast.FunctionDef)}
        for name, tree in trees():
            for node in ast.walk(tree):
                if isinstance(node, ast.Call) and isinstance(node.func, ast.Attribute):
                    self.assertIn(node.func.attr, METHODS | own, (name, node.lineno))

    def test_values_and_statements(self):
        for name, tree in trees():
            told = docstrings(tree)
            for node in ast.walk(tree):
                self.assertNotIsInstance(node, NODES, (name, getattr(node, "lineno", 0)))
                if isinstance(node, ast.Constant):
                    self.assertNotIsInstance(node.value, (float, complex), (name, node.lineno))
                    if isinstance(node.value, str) and node not in told:
                        self.assertNotIn("%", node.value, (name, node.lineno))
                        self.assertNotRegex(node.value, r"\btype\b|^__|[.]__?$", (name, node.lineno))

    def test_properties_and_other_methods(self):
        plain, read, other = methods_of_kind(""), methods_of_kind("property"), methods_of_kind("staticmethod") | methods_of_kind("classmethod")
        self.assertEqual((plain & read, plain & other, read & other), (set(), set(), set()))
        values = {name for kind in (str, int, list, dict, set, bytes) for name in dir(kind)}
        self.assertEqual((read | other) & values, set())
        self.assertEqual({name for name in plain if name in values and not name.startswith("__")} - {"add", "remove"}, set())
        for name, tree in trees():
            for node in ast.walk(tree):
                if isinstance(node, ast.Attribute) and isinstance(node.ctx, ast.Store):
                    self.assertNotIn(node.attr, plain | read | other, (name, node.lineno))
                if isinstance(node, ast.Call) and isinstance(node.func, ast.Attribute):
                    self.assertNotIn(node.func.attr, read, (name, node.lineno))

    def test_generators(self):
        names = generators()
        functions = [node.name for _, tree in trees() for node in ast.walk(tree) if isinstance(node, ast.FunctionDef)]
        self.assertFalse(set(names) & (methods_of_kind("property") | methods_of_kind("staticmethod") | methods_of_kind("classmethod")))
        for name in names:
            self.assertEqual(functions.count(name), 1, name)
        for name, tree in trees():
            above = parents(tree)
            for node in ast.walk(tree):
                if called(node) in names:
                    self.assertTrue(is_iterated(node, above), (name, node.lineno))

    def test_what_is_iterated_at_once(self):
        for name, tree in trees():
            above = parents(tree)
            for node in ast.walk(tree):
                if called(node) in ("zip", "enumerate", "reversed", "range", "items", "keys", "values", "combinations"):
                    self.assertTrue(is_iterated(node, above), (name, node.lineno))

    def test_orders_of_plain_values_and_no_sets(self):
        for name, tree in trees():
            for node in ast.walk(tree):
                self.assertNotIsInstance(node, (ast.Set, ast.SetComp, ast.Lambda), (name, getattr(node, "lineno", 0)))
                self.assertNotIn(called(node), ("set", "frozenset", "sort"), (name, getattr(node, "lineno", 0)))
                if called(node) in ("sorted", "min", "max") and isinstance(node.func, ast.Name):
                    plain = [is_plain(one) for one in node.args]
                    self.assertTrue(any(plain) if len(plain) > 1 else all(plain), (name, node.lineno))

    def test_adding_in_place(self):
        for name, tree in trees():
            for node in ast.walk(tree):
                if isinstance(node, ast.AugAssign):
                    self.assertIsInstance(node.value, ast.Constant, (name, node.lineno))

    def test_local_names_are_no_imports_and_classes(self):
        for name, tree in trees():
            taken = {alias.name for node in tree.body if isinstance(node, ast.ImportFrom) for alias in node.names}
            taken |= {node.name for node in tree.body if isinstance(node, ast.ClassDef)}
            for node in ast.walk(tree):
                if isinstance(node, ast.Name) and isinstance(node.ctx, ast.Store):
                    self.assertNotIn(node.id, taken, (name, node.lineno))
                if isinstance(node, ast.arg):
                    self.assertNotIn(node.arg, taken, (name, node.lineno))

    def test_asking_lists_and_not_generators(self):
        barred = ("any", "all", "min", "max", "sum", "sorted", "set")
        for name, tree in trees():
            for node in ast.walk(tree):
                if isinstance(node, ast.Call) and isinstance(node.func, ast.Name) and node.func.id in barred:
                    for one in node.args:
                        self.assertNotIsInstance(one, ast.GeneratorExp, (name, node.lineno))


if __name__ == "__main__":
    unittest.main()
