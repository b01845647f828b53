"""The rules of form that can be seen without running the program."""

import ast
import builtins
import pathlib
import re
import unittest

PACKAGE = pathlib.Path(__file__).resolve().parent.parent / "nearrows"
BARRED_WORDS = (
    "type", "typing", "typing_extensions", "enum", "Enum", "IntEnum", "StrEnum", "Flag", "IntFlag", "Generic",
    "Protocol", "ABC", "ABCMeta", "namedtuple", "NamedTuple", "TypedDict", "TYPE_CHECKING", "abstractmethod",
)
BARRED_PARTS = ("dataclass", "overload", "contextmanager")
BUILTINS = {
    "len", "range", "enumerate", "zip", "min", "max", "sum", "abs", "sorted", "reversed", "int", "str", "bool",
    "bytes", "list", "tuple", "dict", "set", "isinstance", "ord", "repr", "any", "all", "divmod", "ValueError",
    "KeyError", "IndexError",
}
ITERATING = (
    "list", "tuple", "dict", "sorted", "sum", "any", "all", "enumerate", "zip", "bytes", "min", "max",
)
BARRED_NODES = (
    ast.Global, ast.AsyncFunctionDef, ast.AsyncFor, ast.AsyncWith, ast.Await, ast.Div, ast.Import,
)


def files():
    return sorted(path for path in PACKAGE.rglob("*") if "__pycache__" not in path.parts)


def trees():
    return [(path.name, ast.parse(path.read_text())) for path in files()]


def defined_at_module_level(tree):
    for node in tree.body:
        if isinstance(node, (ast.FunctionDef, ast.ClassDef)):
            yield node.name
        elif isinstance(node, ast.Assign):
            yield from [target.id for target in node.targets]


def bound_at_module_level(tree):
    yield from defined_at_module_level(tree)
    for node in tree.body:
        if isinstance(node, ast.ImportFrom):
            yield from [alias.asname or alias.name for alias in node.names]


def bound_inside(node):
    """The name that this binds in a function, or None."""
    if isinstance(node, ast.arg):
        return node.arg
    if isinstance(node, ast.Name) and isinstance(node.ctx, ast.Store):
        return node.id
    if isinstance(node, (ast.MatchAs, ast.MatchStar)):
        return node.name
    return None


def is_iterated_once(node):
    """Whether this is a call whose worth is iterated at once."""
    if not isinstance(node, ast.Call):
        return False
    if isinstance(node.func, ast.Attribute):
        return node.func.attr in ("items", "keys", "values")
    return isinstance(node.func, ast.Name) and node.func.id in ("zip", "enumerate", "reversed", "range")


def iterated_at_once(tree):
    """What stands where it is iterated at once."""
    for node in ast.walk(tree):
        if isinstance(node, (ast.For, ast.comprehension)):
            yield node.iter
        elif isinstance(node, ast.Call) and isinstance(node.func, ast.Name) and node.func.id in ITERATING:
            yield from node.args[:1]


class Form(unittest.TestCase):
    def test_only_plain_files(self):
        self.assertIn(PACKAGE / "__init__.py", files())
        for path in files():
            self.assertRegex(path.name, r"^[a-z0-9_]+\.py$")

    def test_characters_lines_and_words(self):
        for path in files():
            text = path.read_bytes().decode("ascii")
            with self.subTest(file=path.name):
                self.assertRegex(text, r"\A[ -~\n]*\Z")
                self.assertLessEqual(len(text.splitlines()), 400)
                self.assertLessEqual(max(map(len, text.splitlines())), 120)
                self.assertEqual([word for word in BARRED_WORDS if re.search(rf"\b{word}\b", text)], [])
                self.assertEqual([part for part in BARRED_PARTS if part in text], [])

    def test_functions_are_small(self):
        for name, tree in trees():
            for node in ast.walk(tree):
                if isinstance(node, ast.FunctionDef):
                    self.assertLessEqual(node.end_lineno - node.lineno + 1, 40, (name, node.name))

    def test_imports_name_the_defining_file(self):
        defined = {name[:-3]: set(defined_at_module_level(tree)) for name, tree in trees()}
        for name, tree in trees():
            for node in ast.walk(tree):
                if isinstance(node, ast.ImportFrom):
                    self.assertIn(node, tree.body, name)
                    self.assertEqual(node.level, 0, name)
                    folder, module = node.module.split(".")
                    self.assertEqual(folder, "nearrows", name)
                    self.assertLessEqual({alias.name for alias in node.names}, defined[module], name)

    def test_each_name_is_bound_once_and_not_hidden(self):
        for name, tree in trees():
            bound = list(bound_at_module_level(tree))
            self.assertEqual(len(bound), len(set(bound)), name)
            for node in ast.walk(tree):
                inner = bound_inside(node)
                if inner is not None and not inner.isupper():
                    self.assertNotIn(inner, bound, name)
                    self.assertNotIn(inner, dir(builtins), name)
                    self.assertFalse(inner.startswith("_"), name)

    def test_only_allowed_builtins_and_statements(self):
        for name, tree in trees():
            known = BUILTINS | set(bound_at_module_level(tree))
            for node in ast.walk(tree):
                self.assertNotIsInstance(node, BARRED_NODES, name)
                known.add(bound_inside(node))
            for node in ast.walk(tree):
                if isinstance(node, ast.Name):
                    self.assertIn(node.id, known, name)
                if isinstance(node, ast.Constant):
                    self.assertNotIsInstance(node.value, (float, complex), name)

    def test_what_is_iterated_once_is_not_stored(self):
        for name, tree in trees():
            fine = list(iterated_at_once(tree))
            for node in ast.walk(tree):
                if is_iterated_once(node):
                    self.assertIn(node, fine, (name, node.lineno))


if __name__ == "__main__":
    unittest.main()
