"""Those rules of LANGUAGE.md that can be seen in one file of the package."""

import ast
import builtins
import pathlib
import unittest
import warnings

FOLDER = pathlib.Path(__file__).resolve().parent.parent / "forkflags"
FILES = sorted(FOLDER.glob("*.py"))
LIBRARY = {
    "heapq": {"heappush", "heappop", "heapify", "heapreplace", "heappushpop"},
    "math": {"gcd", "lcm", "isqrt", "comb", "perm", "factorial"},
    "itertools": {
        "product", "combinations", "permutations", "chain", "accumulate", "pairwise", "islice", "zip_longest",
    },
    "collections": {"defaultdict"},
}
BUILTINS = set(
    "len range enumerate zip min max sum abs sorted reversed int str bool list tuple dict set isinstance ord repr any "
    "all divmod iter next map super property staticmethod classmethod Exception ValueError TypeError KeyError "
    "IndexError LookupError ZeroDivisionError ArithmeticError OverflowError RuntimeError NotImplementedError "
    "AttributeError StopIteration NotImplemented".split()
)
# Running examples leaves the last value under the name _, which is no builtin.
NAMES_OF_BUILTINS = set(dir(builtins)) - {"_"}
METHODS_OF_VALUES = set(
    "append clear copy count endswith extend find get index insert isalnum isalpha isdigit islower isspace isupper "
    "items join keys ljust lower lstrip partition pop remove replace reverse rfind rjust rpartition rsplit rstrip "
    "setdefault split splitlines startswith strip update upper values zfill bit_length add discard".split()
)
BARRED_NODES = (
    ast.Global, ast.AsyncFunctionDef, ast.AsyncFor, ast.AsyncWith, ast.Await, ast.Import, ast.Starred, ast.Div,
    ast.GeneratorExp, ast.Pow,
)
BARRED_NAMES = set(
    "register mro elements open input law version_info with_traceback add_note typing enum Enum Flag Generic Protocol "
    "ABC namedtuple NamedTuple TypedDict dataclass overload contextmanager".split()
)


def tree_of(path):
    return ast.parse(path.read_text(encoding="ascii"))


def nodes_of(path, *kinds):
    return [node for node in ast.walk(tree_of(path)) if isinstance(node, kinds)]


def bound_names(path):
    """List the names of functions, classes, parameters, variables and imports of a file."""
    names = [node.name for node in nodes_of(path, ast.FunctionDef, ast.ClassDef)]
    names += [node.arg for node in nodes_of(path, ast.arg)]
    names += [node.id for node in nodes_of(path, ast.Name) if isinstance(node.ctx, ast.Store)]
    return names + [alias.asname or alias.name for node in nodes_of(path, ast.ImportFrom) for alias in node.names]


def for_each_file(method):
    """Make a test that asks the same of each file, and says which file is wrong."""
    def asked(self):
        for path in FILES:
            with self.subTest(path.name):
                method(self, path)
    return asked


class LanguageTest(unittest.TestCase):

    def test_folder(self):
        self.assertTrue(FILES)
        self.assertIn(FOLDER / "__init__.py", FILES)
        found = [path for path in sorted(FOLDER.iterdir()) if path.name != "__pycache__"]
        self.assertEqual(found, FILES, "the folder contains something else (L1)")

    @for_each_file
    def test_size_and_characters(self, path):
        text = path.read_text(encoding="ascii")
        self.assertLessEqual(set(text), set(map(chr, range(32, 127))) | {"\n"}, "L14")
        self.assertLessEqual(len(text.splitlines()), 399, "L10")
        self.assertLessEqual(max(map(len, text.splitlines())), 120, "L10")
        for node in nodes_of(path, ast.FunctionDef):
            self.assertLessEqual(node.end_lineno - node.lineno + 1, 40, f"L10: {node.name}")

    @for_each_file
    def test_no_warnings(self, path):
        with warnings.catch_warnings():
            warnings.simplefilter("error")
            compile(path.read_text(encoding="ascii"), str(path), "exec")

    @for_each_file
    def test_module_level(self, path):
        tree = tree_of(path)
        self.assertIsNotNone(ast.get_docstring(tree))
        for node in tree.body[1:]:
            self.assertIsInstance(node, (ast.ImportFrom, ast.FunctionDef, ast.ClassDef, ast.Assign), "L3")
            if isinstance(node, ast.Assign):
                ast.literal_eval(node.value)

    @for_each_file
    def test_imports(self, path):
        for node in nodes_of(path, ast.ImportFrom):
            names = {alias.name for alias in node.names}
            self.assertEqual((node.level, [alias.asname for alias in node.names]), (0, [None] * len(names)), "L2")
            if node.module in LIBRARY:
                self.assertLessEqual(names, LIBRARY[node.module], "L2")
                continue
            package, _, file = node.module.partition(".")
            self.assertEqual(package, "forkflags", "L2")
            defined = [part for part in tree_of(FOLDER / f"{file}.py").body if not isinstance(part, ast.ImportFrom)]
            own = {getattr(part, "name", None) for part in defined}
            own |= {part.targets[0].id for part in defined if isinstance(part, ast.Assign)}
            self.assertLessEqual(names, own, "L16")

    def test_no_import_in_a_circle(self):
        needs = {
            path.stem: [node.module.partition(".")[2] for node in nodes_of(path, ast.ImportFrom)] for path in FILES
        }
        done = {""}
        while set(needs) - done:
            ready = [name for name in needs if name not in done and done.issuperset(set(needs[name]) & set(needs))]
            self.assertTrue(ready, "files import from each other (L16)")
            done.update(ready)

    @for_each_file
    def test_barred_parts(self, path):
        for node in nodes_of(path, *BARRED_NODES):
            # A star is left to calls, which pass a plain name behind it (L7).
            plain = isinstance(node, ast.Starred) and isinstance(node.value, ast.Name)
            self.assertTrue(plain, f"L6, L7: {ast.dump(node)}")
        for node in nodes_of(path, ast.Constant):
            self.assertNotIsInstance(node.value, (float, complex), "L7")
            self.assertNotIn("%", str(node.value), "L27")
        for node in nodes_of(path, ast.Raise):
            self.assertIsInstance(node.exc, ast.Call, "L19")

    @for_each_file
    def test_names(self, path):
        for name in bound_names(path):
            self.assertTrue(name.isascii(), "L12")
            self.assertFalse(name in NAMES_OF_BUILTINS or name in BARRED_NAMES, f"L15, L17: {name}")
            self.assertEqual(name.startswith("__"), name.endswith("__") and len(name) > 4, "L8")
        for node in nodes_of(path, ast.Name):
            if node.id in NAMES_OF_BUILTINS:
                self.assertIn(node.id, BUILTINS, "L8")

    @for_each_file
    def test_locals_are_not_imports_or_classes(self, path):
        barred = {alias.name for node in nodes_of(path, ast.ImportFrom) for alias in node.names}
        barred |= {node.name for node in nodes_of(path, ast.ClassDef)}
        names = [node.arg for node in nodes_of(path, ast.arg)]
        names += [node.id for node in nodes_of(path, ast.Name) if isinstance(node.ctx, ast.Store)]
        self.assertFalse(barred & set(names), "L15")

    @for_each_file
    def test_methods(self, path):
        own = {node.name for path in FILES for node in nodes_of(path, ast.FunctionDef)}
        for node in nodes_of(path, ast.Call):
            if isinstance(node.func, ast.Attribute):
                self.assertIn(node.func.attr, own | METHODS_OF_VALUES, "L25")

    def test_no_attribute_is_a_method(self):
        methods = set()
        attributes = set()
        for path in FILES:
            for node in nodes_of(path, ast.ClassDef):
                methods |= {part.name for part in node.body if isinstance(part, ast.FunctionDef)}
            for node in nodes_of(path, ast.Attribute):
                if isinstance(node.ctx, ast.Store):
                    attributes.add(node.attr)
        self.assertFalse(methods & attributes, "L18")


class TestsTest(unittest.TestCase):

    def test_one_package(self):
        root = FOLDER.parent
        found = sorted([path.parent.name for path in root.glob("*/__init__.py")])
        self.assertEqual(found, ["forkflags", "tests"])
