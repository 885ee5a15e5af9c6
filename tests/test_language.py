"""Some rules of ../shared/LANGUAGE.md, checked on the sources: signs, sizes, words, imports, module level."""

import ast
import pathlib
import re
import unittest

PACKAGE = pathlib.Path(__file__).resolve().parent.parent / "willdealt"
BARRED = re.compile(
    r"\b(type|typing|typing_extensions|enum|Enum|IntEnum|StrEnum|Flag|IntFlag|Generic|Protocol"
    r"|ABC|ABCMeta|namedtuple|NamedTuple|TypedDict|TYPE_CHECKING|abstractmethod)\b"
    r"|dataclass|overload|contextmanager"
)
AT_TOP = (ast.Import, ast.ImportFrom, ast.FunctionDef, ast.ClassDef, ast.Assign, ast.Expr)
NEVER = (ast.Global, ast.AsyncFunctionDef, ast.AsyncFor, ast.AsyncWith, ast.Await, ast.Div)
DUNDERS = re.compile(r"__(init|eq|repr|str|len)__$")


def files():
    return sorted(PACKAGE.glob("**/*.py"))


def trees():
    return [(path, ast.parse(path.read_text(encoding="ascii"))) for path in files()]


def bound(node):
    """The names that a statement at module level binds."""
    if isinstance(node, ast.ImportFrom):
        return [alias.asname or alias.name for alias in node.names]
    if isinstance(node, (ast.FunctionDef, ast.ClassDef)):
        return [node.name]
    if isinstance(node, ast.Assign):
        return [target.id for target in node.targets]
    return []


class Language(unittest.TestCase):
    def test_the_folder_holds_sources_alone(self):
        self.assertTrue((PACKAGE / "__init__.py").is_file())
        for path in PACKAGE.iterdir():
            if path.name != "__pycache__":
                self.assertRegex(path.name, r"^[a-z_0-9]+\.py$")

    def test_signs_and_sizes(self):
        for path in files():
            text = path.read_bytes().decode("ascii")
            self.assertRegex(text, r"^[ -~\n]*$", path)
            self.assertLessEqual(len(text.splitlines()), 400, path)
            self.assertLessEqual(max([len(line) for line in text.split("\n")]), 120, path)

    def test_barred_words(self):
        for path in files():
            self.assertIsNone(BARRED.search(path.read_text()), path)

    def test_module_level(self):
        for path, tree in trees():
            names = []
            for node in tree.body:
                self.assertIsInstance(node, AT_TOP, path)
                names += bound(node)
            self.assertEqual(len(names), len(set(names)), path)

    def test_imports_are_from_the_very_file(self):
        for path, tree in trees():
            for node in ast.walk(tree):
                self.assertNotIsInstance(node, ast.Import, path)
                if isinstance(node, ast.ImportFrom):
                    self.assertIn(node, tree.body)
                    folder, file = node.module.split(".")
                    self.assertEqual((folder, node.level), ("willdealt", 0), path)
                    source = ast.parse((PACKAGE / (file + ".py")).read_text())
                    defined = [
                        name for each in source.body
                        if not isinstance(each, ast.ImportFrom) for name in bound(each)
                    ]
                    for alias in node.names:
                        self.assertIn(alias.name, defined, path)

    def test_functions_and_names(self):
        for path, tree in trees():
            for node in ast.walk(tree):
                self.assertNotIsInstance(node, NEVER, path)
                if isinstance(node, ast.FunctionDef):
                    self.assertLessEqual(node.end_lineno - node.lineno + 1, 40, node.name)
                    if node.name.startswith("_"):
                        self.assertRegex(node.name, DUNDERS)
                if isinstance(node, ast.Constant):
                    self.assertNotIsInstance(node.value, (float, complex), path)


if __name__ == "__main__":
    unittest.main()
