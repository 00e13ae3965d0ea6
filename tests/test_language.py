"""The rules for the package's code, as far as a short reader can see them."""

import ast
import builtins
import pathlib
import re
import unittest

PACKAGE = pathlib.Path(__file__).resolve().parent.parent / "meetways"
FILES = sorted(PACKAGE.glob("*.py"))
TREES = {path.stem: ast.parse(path.read_text()) for path in FILES}

BARRED_WORDS = re.compile(
    r"\b(type|typing|typing_extensions|enum|Enum|IntEnum|StrEnum|Flag|IntFlag|Generic|Protocol|ABC|ABCMeta|namedtuple"
    r"|NamedTuple|TypedDict|TYPE_CHECKING|abstractmethod|register|mro|elements|open|input|version_info|with_traceback"
    r"|add_note)\b|dataclass|overload|contextmanager")
BUILTINS = set(
    "len range enumerate zip min max sum abs sorted reversed int str bool bytes list tuple dict set isinstance ord repr"
    " any all divmod Exception ValueError KeyError IndexError LookupError ZeroDivisionError RuntimeError".split())
METHODS = set(
    "append clear copy count endswith extend find get index insert isalnum isalpha isdigit islower isspace isupper items"
    " join keys ljust lower lstrip partition pop remove replace reverse rfind rjust rpartition rsplit rstrip setdefault"
    " split splitlines startswith strip update upper values zfill bit_length".split())
BARRED_NODES = (
    ast.Global, ast.AsyncFunctionDef, ast.AsyncFor, ast.AsyncWith, ast.Await, ast.Import, ast.Div, ast.MatMult)


def names_defined(tree):
    """The names of the functions, classes and values at module level."""
    found = set()
    for node in tree.body:
        if isinstance(node, (ast.FunctionDef, ast.ClassDef)):
            found.add(node.name)
        elif isinstance(node, ast.Assign):
            found |= {target.id for target in node.targets}
    return found


def own_methods():
    """The methods that the package's classes define."""
    classes = [node for tree in TREES.values() for node in ast.walk(tree) if isinstance(node, ast.ClassDef)]
    return {part.name for node in classes for part in node.body if isinstance(part, ast.FunctionDef)}


def assigned_attributes():
    """The attributes that are assigned."""
    nodes = [node for tree in TREES.values() for node in ast.walk(tree) if isinstance(node, ast.Attribute)]
    return {node.attr for node in nodes if isinstance(node.ctx, ast.Store)}


def imported(tree):
    """(file, name) of each import."""
    return [(node.module.partition(".")[2], name.name) for node in tree.body if isinstance(node, ast.ImportFrom)
            for name in node.names]


def reached_from(stem):
    """All files that this one imports, through others too."""
    found = []
    ahead = [file for file, _ in imported(TREES[stem])]
    while ahead:
        file = ahead.pop()
        if file not in found:
            found.append(file)
            ahead += [further for further, _ in imported(TREES[file])]
    return found


class Language(unittest.TestCase):
    def test_files_and_characters(self):
        self.assertIn(PACKAGE / "__init__.py", FILES)
        for path in PACKAGE.iterdir():
            if path.name != "__pycache__":
                self.assertRegex(path.name, r"^[a-z0-9_]+\.py$")
        for path in FILES:
            text = path.read_text()
            self.assertRegex(text, r"^[\n -~]*\n$", path.name)
            self.assertIsNone(BARRED_WORDS.search(text), path.name)
            self.assertLessEqual(len(text.splitlines()), 400)
            self.assertLessEqual(max(map(len, text.splitlines())), 120)

    def test_module_level(self):
        for stem, tree in TREES.items():
            for at, node in enumerate(tree.body):
                if at == 0:
                    self.assertIsNotNone(ast.get_docstring(tree), stem)
                else:
                    self.assertIsInstance(node, (ast.ImportFrom, ast.FunctionDef, ast.ClassDef, ast.Assign), stem)

    def test_imports(self):
        for stem, tree in TREES.items():
            for node in ast.walk(tree):
                if isinstance(node, ast.ImportFrom):
                    self.assertIn(node, tree.body)
                    self.assertEqual((node.level, node.module.partition(".")[0]), (0, "meetways"))
            for file, name in imported(tree):
                self.assertIn(name, names_defined(TREES[file]), (stem, file))
            self.assertNotIn(stem, reached_from(stem))

    def test_nodes(self):
        for stem, tree in TREES.items():
            for node in ast.walk(tree):
                where = (stem, getattr(node, "lineno", 0))
                self.assertNotIsInstance(node, BARRED_NODES, where)
                if isinstance(node, (ast.FunctionDef, ast.ClassDef)):
                    self.assertEqual(node.decorator_list, [], where)
                    self.assertIsNotNone(ast.get_docstring(node), where)
                if isinstance(node, ast.FunctionDef):
                    self.assertLessEqual(node.end_lineno - node.lineno + 1, 40, where)
                if isinstance(node, ast.Constant):
                    self.assertNotIsInstance(node.value, (float, complex), where)
                    self.assertNotIn("%", str(node.value), where)
                if isinstance(node, ast.Compare) and any(isinstance(sign, (ast.Is, ast.IsNot)) for sign in node.ops):
                    self.assertIsInstance(node.comparators[0], ast.Constant, where)
                if isinstance(node, ast.BinOp) and isinstance(node.op, ast.Pow):
                    self.assertIsInstance(node.right, ast.Constant, where)

    def test_names(self):
        known = set(dir(builtins))
        self.assertEqual(own_methods() & assigned_attributes(), set())
        attributes = METHODS | own_methods() | assigned_attributes()
        for stem, tree in TREES.items():
            taken = {name for _, name in imported(tree)}
            for node in ast.walk(tree):
                where = (stem, getattr(node, "lineno", 0))
                if isinstance(node, ast.Attribute):
                    self.assertIn(node.attr, attributes, where)
                if isinstance(node, ast.Name) and isinstance(node.ctx, ast.Load) and node.id in known:
                    self.assertIn(node.id, BUILTINS, where)
                if isinstance(node, ast.arg) or (isinstance(node, ast.Name) and isinstance(node.ctx, ast.Store)):
                    name = node.arg if isinstance(node, ast.arg) else node.id
                    self.assertRegex(name, "^[A-Za-z]", where)
                    self.assertNotIn(name, known | taken, where)


if __name__ == "__main__":
    unittest.main()
