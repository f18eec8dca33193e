"""The package's own files keep to the form asked of them, as far as a plain look can tell."""

import ast
import builtins
import pathlib
import re
import unittest

PACKAGE = pathlib.Path(__file__).resolve().parent.parent / "manyreaders"
BUILT_IN = set(
    "len range enumerate zip min max sum abs sorted reversed int str bool bytes list tuple dict set frozenset "
    "isinstance ord repr any all divmod Exception ValueError TypeError KeyError IndexError LookupError "
    "ZeroDivisionError ArithmeticError OverflowError RuntimeError NotImplementedError AttributeError StopIteration".split()
)
BARRED_NODES = (
    ast.With, ast.Match, ast.Global, ast.Nonlocal, ast.Yield, ast.YieldFrom, ast.Await, ast.AsyncFunctionDef,
    ast.AsyncFor, ast.AsyncWith, ast.GeneratorExp, ast.NamedExpr, ast.Div, ast.Import,
)
BARRED_WORDS = re.compile(
    r"\b(type|typing|typing_extensions|enum|Enum|IntEnum|StrEnum|Flag|IntFlag|Generic|Protocol|ABC|ABCMeta|namedtuple"
    r"|NamedTuple|TypedDict|TYPE_CHECKING|abstractmethod)\b"
    r"|dataclass|overload|contextmanager"
)


METHODS = set(
    "append clear copy count endswith extend find get index insert isalnum isalpha isdigit islower isspace isupper items "
    "join keys ljust lower lstrip partition pop remove replace reverse rfind rjust rpartition rsplit rstrip setdefault "
    "split splitlines startswith strip update upper values zfill bit_length add discard".split()
)


def sources():
    return sorted(PACKAGE.glob("*.py"))


def trees():
    return [(path, ast.parse(path.read_text(encoding="ascii"))) for path in sources()]


def bound_names(tree):
    """Every name that a file gives a meaning of its own, wherever in it."""
    names = []
    for node in ast.walk(tree):
        if isinstance(node, (ast.FunctionDef, ast.ClassDef)):
            names.append(node.name)
        elif isinstance(node, ast.arg):
            names.append(node.arg)
        elif isinstance(node, ast.alias):
            names.append(node.asname or node.name)
        elif isinstance(node, ast.Name) and isinstance(node.ctx, ast.Store):
            names.append(node.id)
        elif isinstance(node, ast.ExceptHandler) and node.name:
            names.append(node.name)
    return names


def local_names(tree):
    """Every parameter, and every name that a def gives a value."""
    names = []
    for node in ast.walk(tree):
        if isinstance(node, ast.FunctionDef):
            for part in ast.walk(node):
                if isinstance(part, ast.arg):
                    names.append(part.arg)
                elif isinstance(part, ast.Name) and isinstance(part.ctx, ast.Store):
                    names.append(part.id)
    return names


def drawn(tree):
    """The modules that a file draws from."""
    return [node.module.split(".")[1] for node in ast.walk(tree) if isinstance(node, ast.ImportFrom)]


class LanguageTests(unittest.TestCase):
    def test_there_is_a_package(self):
        self.assertIn("__init__.py", [path.name for path in sources()])

    def test_nothing_but_python_files_lies_in_it(self):
        names = [path.name for path in PACKAGE.iterdir() if path.name != "__pycache__"]
        for name in names:
            self.assertRegex(name, r"^[a-z0-9_]+\.py$")

    def test_signs_and_sizes(self):
        for path in sources():
            text = path.read_text(encoding="ascii")
            self.assertRegex(text, r"\A[\n -~]*\Z", path.name)
            rows = text.splitlines()
            self.assertLessEqual(len(rows), 400, path.name)
            self.assertLessEqual(max([len(row) for row in rows], default=0), 120, path.name)

    def test_functions_are_short_and_plain(self):
        for path, tree in trees():
            for node in ast.walk(tree):
                if isinstance(node, ast.FunctionDef):
                    self.assertLessEqual(node.end_lineno - node.lineno + 1, 40, (path.name, node.name))
                    self.assertEqual(node.decorator_list, [])
                    self.assertIsNone(node.args.vararg)
                    self.assertIsNone(node.args.kwarg)

    def test_barred_words_and_forms(self):
        for path, tree in trees():
            self.assertIsNone(BARRED_WORDS.search(path.read_text(encoding="ascii")), path.name)
            for node in ast.walk(tree):
                self.assertNotIsInstance(node, BARRED_NODES, path.name)
                if isinstance(node, ast.Constant):
                    self.assertNotIsInstance(node.value, (float, complex), path.name)

    def test_imports_are_the_package_own(self):
        for path, tree in trees():
            for node in ast.walk(tree):
                if isinstance(node, ast.ImportFrom):
                    self.assertEqual(node.level, 0, path.name)
                    self.assertRegex(node.module, r"^manyreaders\.[a-z0-9_]+$")
                    self.assertNotIn("*", [alias.name for alias in node.names])

    def test_names(self):
        for path, tree in trees():
            bound = bound_names(tree)
            for name in bound:
                self.assertNotIn(name, BUILT_IN, path.name)
                if name != "__init__":
                    self.assertRegex(name, r"^[A-Za-z][A-Za-z0-9_]*$", path.name)
            for node in ast.walk(tree):
                if isinstance(node, ast.Name) and node.id not in bound:
                    self.assertIn(node.id, BUILT_IN, path.name)

    def test_no_local_is_called_like_an_import_or_a_class(self):
        for path, tree in trees():
            taken = [alias.name for node in ast.walk(tree) if isinstance(node, ast.ImportFrom) for alias in node.names]
            taken += [node.name for node in tree.body if isinstance(node, ast.ClassDef)]
            self.assertEqual(set(taken) & set(local_names(tree)), set(), path.name)
            self.assertEqual(len(set(taken)), len(taken), path.name)
            self.assertEqual(set(dir(builtins)) & set(local_names(tree)), set(), path.name)

    def test_no_two_files_draw_from_one_another(self):
        left = {path.stem: set(drawn(tree)) for path, tree in trees()}
        while left:
            free = [name for name, needs in left.items() if not needs & set(left)]
            self.assertTrue(free, left)
            for name in free:
                del left[name]

    def test_statements_and_comparisons(self):
        for path, tree in trees():
            for node in ast.walk(tree):
                if isinstance(node, (ast.For, ast.While)):
                    self.assertEqual(node.orelse, [], (path.name, node.lineno))
                if isinstance(node, ast.Compare):
                    things = [node.left] + node.comparators
                    for at, op in enumerate(node.ops):
                        if isinstance(op, (ast.Is, ast.IsNot)):
                            plain = [isinstance(thing, ast.Constant) for thing in things[at:at + 2]]
                            self.assertIn(True, plain, (path.name, node.lineno))

    def test_methods_and_values(self):
        own = {node.attr for path, tree in trees() for node in ast.walk(tree)
               if isinstance(node, ast.Attribute) and isinstance(node.ctx, ast.Store)}
        for path, tree in trees():
            for node in ast.walk(tree):
                if isinstance(node, ast.Attribute):
                    self.assertIn(node.attr, METHODS | own, (path.name, node.lineno))

    def test_sets_are_not_kept(self):
        for path, tree in trees():
            asked = set()
            for node in ast.walk(tree):
                if isinstance(node, ast.Call) and isinstance(node.func, ast.Name) and node.func.id in ("len", "sorted"):
                    asked.update(id(part) for part in node.args)
                elif isinstance(node, ast.Compare):
                    asked.update(id(part) for part in node.comparators)
            for node in ast.walk(tree):
                made = isinstance(node, (ast.Set, ast.SetComp)) or (
                    isinstance(node, ast.Call) and isinstance(node.func, ast.Name) and node.func.id == "set"
                )
                self.assertTrue(not made or id(node) in asked, (path.name, getattr(node, "lineno", 0)))


if __name__ == "__main__":
    unittest.main()
