"""Some rules of ../shared/LANGUAGE.md, checked on the sources.

Signs, sizes, words, imports, module level; which builtins are used, and that no name hides one of them or
an import; that no name is a method here and an attribute there; that no two files import from each other; which
methods of builtin values are called, and with which keywords; what is iterated at once; how errors are raised;
what the double-underscore methods tell; which names aren't used.
"""

import ast
import builtins
import pathlib
import re
import unittest

PACKAGE = pathlib.Path(__file__).resolve().parent.parent / "willdealt"
BARRED = re.compile(
    r"\b(type|typing|typing_extensions|enum|Enum|IntEnum|StrEnum|Flag|IntFlag|Generic|Protocol"
    r"|ABC|ABCMeta|namedtuple|NamedTuple|TypedDict|TYPE_CHECKING|abstractmethod)\b"
    r"|dataclass|overload|contextmanager"
)
AT_TOP = (ast.Import, ast.ImportFrom, ast.FunctionDef, ast.ClassDef, ast.Assign, ast.Expr)
NEVER = (ast.Global, ast.AsyncFunctionDef, ast.AsyncFor, ast.AsyncWith, ast.Await, ast.Div)
DUNDERS = re.compile(r"__(init|eq|repr|str|len)__$")
LET = set(
    "len range enumerate zip min max sum abs sorted reversed int str bool list tuple dict set isinstance ord repr "
    "any all divmod ValueError LookupError ArithmeticError KeyError".split()
)
# L25: the methods of builtin values that are called so far, all of them listed there.
BUILT_IN_METHODS = set(
    "append extend get index insert items join pop removeprefix replace split startswith update".split()
)
# L22: builtins that take keywords, and which.
KEYWORDS = {"sorted": {"key", "reverse"}, "min": {"key", "default"}, "max": {"key", "default"}, "sum": {"start"},
            "enumerate": {"start"}, "zip": {"strict"}}
# L17: never names of variables, functions, classes, parameters or methods.
UNUSED = set(
    "register mro elements open input version_info with_traceback add_note attrgetter breakpoint builtins compile "
    "copyright credits delattr dir eval exec exit gc getattr globals hasattr help id importlib license locals "
    "methodcaller os quit setattr super vars sys".split()
)
AT_ONCE = ("zip", "enumerate", "reversed", "range")
TAKES_AT_ONCE = ("list", "tuple", "dict", "sorted", "sum", "any", "all", "enumerate", "zip", "min", "max")


def files():
    return sorted(PACKAGE.glob("**/*.py"))


def trees():
    return [(path, ast.parse(path.read_text(encoding="ascii"))) for path in files()]


def bound(node):
    """The names that a statement at module level binds."""
    if isinstance(node, ast.ImportFrom):
        return [alias.asname or alias.name for alias in node.names]
    if isinstance(node, (ast.FunctionDef, ast.ClassDef)):
        return [node.name]
    if isinstance(node, ast.Assign):
        return [target.id for target in node.targets]
    return []


def local_names(function):
    """The names that a function binds: its parameters, and what it assigns to."""
    args = function.args
    names = [each.arg for each in args.args + args.kwonlyargs + [args.vararg, args.kwarg] if each is not None]
    return names + [
        node.id for node in ast.walk(function) if isinstance(node, ast.Name) and isinstance(node.ctx, ast.Store)
    ]


def imported_files(tree):
    """The files of the package that a file imports from."""
    return [node.module.split(".")[1] for node in tree.body if isinstance(node, ast.ImportFrom)]


def bound_in(file):
    """The names that a file of the package defines."""
    tree = ast.parse((PACKAGE / (file + ".py")).read_text())
    return [name for node in tree.body for name in bound(node)]


def is_plainly_a_text(value):
    """Whether a value is a literal text, an f-string, str(..), repr(..) or the join of a literal."""
    if isinstance(value, ast.Call):
        if isinstance(value.func, ast.Name):
            return value.func.id in ("str", "repr")
        return value.func.attr == "join" and isinstance(value.func.value, ast.Constant)
    return isinstance(value, ast.JoinedStr) or (isinstance(value, ast.Constant) and isinstance(value.value, str))


class Language(unittest.TestCase):
    def test_the_folder_holds_sources_alone(self):
        self.assertTrue((PACKAGE / "__init__.py").is_file())
        for path in PACKAGE.iterdir():
            if path.name != "__pycache__":
                self.assertRegex(path.name, r"^[a-z_0-9]+\.py$")

    def test_signs_and_sizes(self):
        for path in files():
            text = path.read_bytes().decode("ascii")
            self.assertRegex(text, r"^[ -~\n]*$", path)
            self.assertLessEqual(len(text.splitlines()), 400, path)
            self.assertLessEqual(max([len(line) for line in text.split("\n")]), 120, path)

    def test_barred_words(self):
        for path in files():
            self.assertIsNone(BARRED.search(path.read_text()), path)

    def test_module_level(self):
        for path, tree in trees():
            names = []
            for node in tree.body:
                self.assertIsInstance(node, AT_TOP, path)
                names += bound(node)
            self.assertEqual(len(names), len(set(names)), path)

    def test_imports_are_from_the_very_file(self):
        for path, tree in trees():
            for node in ast.walk(tree):
                self.assertNotIsInstance(node, ast.Import, path)
                if isinstance(node, ast.ImportFrom):
                    self.assertIn(node, tree.body)
                    folder, file = node.module.split(".")
                    self.assertEqual((folder, node.level), ("willdealt", 0), path)
                    source = ast.parse((PACKAGE / (file + ".py")).read_text())
                    defined = [
                        name for each in source.body
                        if not isinstance(each, ast.ImportFrom) for name in bound(each)
                    ]
                    for alias in node.names:
                        self.assertIn(alias.name, defined, path)

    def test_functions_and_names(self):
        for path, tree in trees():
            for node in ast.walk(tree):
                self.assertNotIsInstance(node, NEVER, path)
                if isinstance(node, ast.FunctionDef):
                    self.assertLessEqual(node.end_lineno - node.lineno + 1, 40, node.name)
                    if node.name.startswith("_"):
                        self.assertRegex(node.name, DUNDERS)
                if isinstance(node, ast.Constant):
                    self.assertNotIsInstance(node.value, (float, complex), path)

    def test_builtins(self):
        own = dir(builtins)
        for path, tree in trees():
            for node in ast.walk(tree):
                if isinstance(node, ast.Name) and node.id in own:
                    self.assertIn(node.id, LET, path)
                self.assertNotIsInstance(node, ast.GeneratorExp, path)
                if isinstance(node, ast.Compare):
                    for sign, right in zip(node.ops, node.comparators):
                        if isinstance(sign, (ast.Is, ast.IsNot)):
                            self.assertIsInstance(right, ast.Constant, path)

    def test_no_name_hides_another(self):
        for path, tree in trees():
            hidden = [name for node in tree.body if not isinstance(node, (ast.FunctionDef, ast.Assign))
                      for name in bound(node)] + dir(builtins)
            for node in ast.walk(tree):
                if isinstance(node, (ast.FunctionDef, ast.Lambda)):
                    for name in local_names(node):
                        self.assertNotIn(name, hidden, path)
                        self.assertFalse(name.startswith("_"), path)

    def test_methods_and_attributes(self):
        methods, attributes, read = set(), set(), set()
        for path, tree in trees():
            for node in ast.walk(tree):
                if isinstance(node, ast.ClassDef):
                    methods |= {each.name for each in node.body if isinstance(each, ast.FunctionDef)}
                if isinstance(node, ast.Attribute):
                    (attributes if isinstance(node.ctx, ast.Store) else read).add(node.attr)
        self.assertEqual(methods & attributes, set())
        built = set(dir(str)) | set(dir(list)) | set(dir(dict))
        self.assertEqual(read - methods - attributes - built, set())

    def test_no_two_files_import_from_each_other(self):
        wanted = {path.stem: imported_files(tree) for path, tree in trees()}
        while wanted:
            free = [name for name, others in wanted.items() if not [each for each in others if each in wanted]]
            self.assertNotEqual(free, [], wanted)
            wanted = {name: others for name, others in wanted.items() if name not in free}

    def test_methods_of_builtin_values(self):
        own = {each.name for path, tree in trees() for node in ast.walk(tree) if isinstance(node, ast.ClassDef)
               for each in node.body if isinstance(each, ast.FunctionDef)}
        for path, tree in trees():
            for node in ast.walk(tree):
                if isinstance(node, ast.Call) and isinstance(node.func, ast.Attribute):
                    self.assertIn(node.func.attr, own | BUILT_IN_METHODS, path)
                    if node.func.attr in BUILT_IN_METHODS:
                        self.assertEqual(node.keywords, [], path)
        # So a method of an own class never looks like one of a list, text or dict.
        self.assertEqual(own & (set(dir(str)) | set(dir(list)) | set(dir(dict)) | set(dir(set)) | set(dir(int))),
                         {name for name in own if name.startswith("__")})

    def test_keywords_of_builtins(self):
        for path, tree in trees():
            for node in ast.walk(tree):
                if isinstance(node, ast.Call) and isinstance(node.func, ast.Name) and node.func.id in LET:
                    told = {keyword.arg for keyword in node.keywords}
                    self.assertLessEqual(told, KEYWORDS.get(node.func.id, set()), path)

    def test_iterated_at_once(self):
        for path, tree in trees():
            let = set()
            for node in ast.walk(tree):
                if isinstance(node, (ast.For, ast.comprehension)):
                    let.add(node.iter)
                if isinstance(node, ast.Call) and isinstance(node.func, ast.Name) and node.func.id in TAKES_AT_ONCE:
                    let.update(node.args[:1])
            for node in ast.walk(tree):
                if isinstance(node, ast.Call):
                    name = node.func.id if isinstance(node.func, ast.Name) else getattr(node.func, "attr", None)
                    if name in (*AT_ONCE, "items", "keys", "values"):
                        self.assertIn(node, let, (path, node.lineno))

    def test_raised_on_the_spot(self):
        refusals = bound_in("errors")
        for path, tree in trees():
            for node in ast.walk(tree):
                if isinstance(node, ast.Raise) and node.exc is not None:
                    self.assertIsInstance(node.exc, ast.Call, path)
                    self.assertIn(node.exc.func.id, refusals, path)
                if isinstance(node, ast.ExceptHandler):
                    self.assertIn(node.type.id, refusals, path)

    def test_what_double_underscore_methods_tell(self):
        for path, tree in trees():
            for node in ast.walk(tree):
                if not isinstance(node, ast.FunctionDef) or node.name not in ("__len__", "__str__", "__repr__", "__eq__"):
                    continue
                self.assertIsInstance(node.body[-1], ast.Return, path)
                for each in ast.walk(node):
                    self.assertNotIsInstance(each, (ast.Assign, ast.AugAssign, ast.Delete), path)
                    if isinstance(each, ast.Return) and node.name == "__len__":
                        self.assertEqual(each.value.func.id, "len", path)
                    if isinstance(each, ast.Return) and node.name in ("__str__", "__repr__"):
                        self.assertTrue(is_plainly_a_text(each.value), (path, each.lineno))

    def test_names_that_are_not_used(self):
        for path, tree in trees():
            for node in ast.walk(tree):
                if isinstance(node, (ast.FunctionDef, ast.ClassDef)):
                    self.assertNotIn(node.name, UNUSED, path)
                if isinstance(node, ast.Name):
                    self.assertNotIn(node.id, UNUSED, path)
                if isinstance(node, ast.arg):
                    self.assertNotIn(node.arg, UNUSED, path)

    def test_texts(self):
        for path, tree in trees():
            for node in ast.walk(tree):
                if isinstance(node, ast.Constant) and isinstance(node.value, str):
                    self.assertNotIn("%", node.value, path)
                    self.assertFalse(node.value.endswith(("._", ".__")), path)

    def test_no_two_alike_lambdas_on_one_line(self):
        for path, tree in trees():
            lines = [node.lineno for node in ast.walk(tree) if isinstance(node, ast.Lambda)]
            self.assertEqual(len(lines), len(set(lines)), path)


if __name__ == "__main__":
    unittest.main()
