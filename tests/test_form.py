"""Tests of the form of the package's files, as far as a small check can see it."""

import ast
import builtins
import re
import unittest
import warnings
from pathlib import Path

FOLDER = Path(__file__).resolve().parent.parent / "heavycut"
FILES = sorted(FOLDER.glob("*.py"))
TREES = {path.stem: ast.parse(path.read_text()) for path in FILES}

BUILTINS = set(
    "len range enumerate zip min max sum abs sorted reversed int str bool bytes list tuple dict set frozenset "
    "isinstance ord repr any all divmod ValueError KeyError".split()
)
METHODS = set(
    "append clear copy count endswith extend find get index insert isalnum isalpha isdigit islower isspace isupper "
    "items join keys ljust lower lstrip partition pop remove replace reverse rfind rjust rpartition rsplit rstrip "
    "setdefault split splitlines startswith strip update upper values zfill bit_length removeprefix removesuffix "
    "isascii isdecimal add".split()
)
BARRED_NAMES = set(
    "register mro elements open input version_info with_traceback add_note attrgetter breakpoint builtins compile "
    "copyright credits delattr dir eval exec exit gc getattr globals hasattr help id importlib license locals "
    "methodcaller os quit setattr super type vars sys".split()
)
BARRED_WORDS = (
    r"\b(type|typing|typing_extensions|enum|Enum|IntEnum|StrEnum|Flag|IntFlag|Generic|Protocol|ABC|ABCMeta"
    r"|namedtuple|NamedTuple|TypedDict|TYPE_CHECKING|abstractmethod)\b|dataclass|overload|contextmanager"
)
BARRED_NODES = (
    ast.Global, ast.AsyncFunctionDef, ast.AsyncFor, ast.AsyncWith, ast.Await, ast.Div, ast.Import, ast.Try, ast.Pow,
)


def nodes(*kinds):
    """Answer pairs of a file's name and a node, for all nodes of these kinds."""
    return [(name, node) for name, tree in TREES.items() for node in ast.walk(tree) if isinstance(node, kinds)]


def defined(tree):
    """Answer all names that a file defines at its module level, imports aside."""
    found = set()
    for node in tree.body:
        if isinstance(node, (ast.FunctionDef, ast.ClassDef)):
            found.add(node.name)
        elif isinstance(node, ast.Assign):
            found |= {target.id for target in node.targets}
    return found


def own_methods():
    """Answer the names of all methods of the package's classes."""
    return {node.name for name, each in nodes(ast.ClassDef) for node in each.body if isinstance(node, ast.FunctionDef)}


def own_attributes():
    """Answer the names of all attributes that the package assigns."""
    return {node.attr for name, node in nodes(ast.Attribute) if isinstance(node.ctx, ast.Store)}


def imported(tree):
    """Answer pairs of a module and a name for all imports of a file."""
    return [(node.module, alias.name) for node in tree.body if isinstance(node, ast.ImportFrom) for alias in node.names]


class TestFiles(unittest.TestCase):
    def test_only_files_with_plain_names(self):
        for path in FOLDER.iterdir():
            if path.name != "__pycache__":
                self.assertRegex(path.name, r"^([a-z][a-z0-9_]*|__init__)\.py$")

    def test_lines_and_characters(self):
        for path in FILES:
            text = path.read_text()
            lines = text.split("\n")
            self.assertLessEqual(len(lines), 400, path.name)
            self.assertLessEqual(max(len(line) for line in lines), 120, path.name)
            self.assertRegex(text, r"^[ -~\n]*$", path.name)
            self.assertIsNone(re.search(BARRED_WORDS, text), path.name)

    def test_short_functions(self):
        for name, node in nodes(ast.FunctionDef):
            self.assertLessEqual(node.end_lineno - node.lineno + 1, 40, (name, node.name))

    def test_no_warnings(self):
        with warnings.catch_warnings():
            warnings.simplefilter("error")
            for path in FILES:
                compile(path.read_text(), path.name, "exec")


class TestNames(unittest.TestCase):
    def test_imports(self):
        for name, tree in TREES.items():
            for module, what in imported(tree):
                self.assertTrue(module.startswith("heavycut."), (name, module))
                self.assertIn(what, defined(TREES[module.partition(".")[2]]), (name, module))
            used = {node.id for node in ast.walk(tree) if isinstance(node, ast.Name)}
            self.assertEqual([what for module, what in imported(tree) if what not in used], [], name)

    def test_no_rounds_of_imports(self):
        left = {name: {module.partition(".")[2] for module, what in imported(tree)} for name, tree in TREES.items()}
        while left:
            free = [name for name, needs in left.items() if not needs & set(left)]
            self.assertNotEqual(free, [])
            left = {name: needs for name, needs in left.items() if name not in free}

    def test_bound_names(self):
        for name, tree in TREES.items():
            taken = {what for module, what in imported(tree)} | set(dir(builtins))
            taken |= {node.name for node in tree.body if isinstance(node, ast.ClassDef)}
            stored = [node.id for node in ast.walk(tree) if isinstance(node, ast.Name) and isinstance(node.ctx, ast.Store)]
            stored += [node.arg for node in ast.walk(tree) if isinstance(node, ast.arg)]
            self.assertEqual([word for word in stored if word in taken], [], name)
            stored += [node.name for node in ast.walk(tree) if isinstance(node, (ast.FunctionDef, ast.ClassDef))]
            self.assertEqual([word for word in stored if word in BARRED_NAMES], [], name)
            self.assertEqual([word for word in stored if word.startswith("_") and word != "__init__"], [], name)

    def test_builtins(self):
        for name, tree in TREES.items():
            known = BUILTINS | defined(tree) | {what for module, what in imported(tree)}
            for node in ast.walk(tree):
                if isinstance(node, ast.Name) and isinstance(node.ctx, ast.Load) and hasattr(builtins, node.id):
                    self.assertIn(node.id, known, name)

    def test_methods(self):
        for name, node in nodes(ast.Attribute):
            self.assertIn(node.attr, METHODS | own_methods() | own_attributes(), name)

    def test_own_methods_and_attributes(self):
        taken = {word for kind in (str, bytes, int, list, tuple, dict, set) for word in dir(kind)}
        methods, attributes = own_methods() - {"__init__"}, own_attributes()
        self.assertEqual(methods & attributes, set())
        self.assertEqual((methods | attributes) & taken, set())
        self.assertEqual((methods | attributes) & (BARRED_NAMES | METHODS), set())

    def test_attributes_are_set_at_first(self):
        for name, each in nodes(ast.ClassDef):
            first = [node for node in each.body if isinstance(node, ast.FunctionDef) and node.name == "__init__"]
            held = {node.attr for start in first for node in ast.walk(start)
                    if isinstance(node, ast.Attribute) and isinstance(node.ctx, ast.Store)}
            used = {node.attr for node in ast.walk(each)
                    if isinstance(node, ast.Attribute) and isinstance(node.value, ast.Name) and node.value.id == "self"}
            self.assertEqual(used - held - own_methods(), set(), (name, each.name))


class TestSteps(unittest.TestCase):
    def test_barred_steps(self):
        for name, node in nodes(*BARRED_NODES):
            plain = isinstance(node, ast.Try) and all(isinstance(each.type, ast.Name) for each in node.handlers)
            self.assertTrue(plain, (name, ast.dump(node)))

    def test_no_floats_and_no_percent_signs(self):
        for name, node in nodes(ast.Constant):
            self.assertNotIsInstance(node.value, (float, complex), name)
            if isinstance(node.value, str):
                self.assertNotIn("%", node.value, name)

    def test_is_beside_none_true_false_only(self):
        for name, node in nodes(ast.Compare):
            for sign, right in zip(node.ops, node.comparators):
                if isinstance(sign, (ast.Is, ast.IsNot)):
                    self.assertIsInstance(right, ast.Constant, name)
                    self.assertIn(repr(right.value), ("None", "True", "False"), name)

    def test_module_level(self):
        for name, tree in TREES.items():
            self.assertIsNotNone(ast.get_docstring(tree), name)
            for node in tree.body[1:]:
                self.assertIsInstance(node, (ast.ImportFrom, ast.FunctionDef, ast.ClassDef, ast.Assign), name)


if __name__ == "__main__":
    unittest.main()
