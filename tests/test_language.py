"""The rules of the language that later changes break most easily: sizes, signs, imports, names, builtins, methods."""

import ast
import builtins
import pathlib
import re
import textwrap
import unittest

import leftstanding

FOLDER = pathlib.Path(leftstanding.__file__).resolve().parent
FILES = [path for path in sorted(FOLDER.rglob("*")) if "__pycache__" not in path.parts]
LIBRARY = {
    "heapq": {"heappush", "heappop", "heapify", "heapreplace", "heappushpop"},
    "math": {"gcd", "lcm", "isqrt", "comb", "perm", "factorial"},
    "itertools": {
        "product", "combinations", "permutations", "chain", "accumulate", "pairwise", "islice", "zip_longest",
    },
    "collections": {"defaultdict", "deque"},
    "__future__": {"annotations"},
}
# As LANGUAGE.md lists them, without chr, which it takes back, and print.
BUILTINS = set("""
    len range enumerate zip min max sum abs sorted reversed int str bool bytes list tuple dict set frozenset isinstance
    ord repr any all divmod pow getattr hasattr setattr iter next map super property staticmethod classmethod Exception
    ValueError TypeError KeyError IndexError LookupError ZeroDivisionError ArithmeticError OverflowError RuntimeError
    NotImplementedError AttributeError StopIteration NotImplemented
""".split())
METHODS = set("""
    append clear copy count endswith extend find get index insert isalnum isalpha isdigit islower isspace isupper items
    join keys ljust lower lstrip partition pop remove replace reverse rfind rjust rpartition rsplit rstrip setdefault
    split splitlines startswith strip update upper values zfill bit_length title capitalize swapcase casefold center
    expandtabs removeprefix removesuffix rindex isascii isdecimal isnumeric istitle isidentifier isprintable sort add
    discard appendleft popleft
""".split())
WORDS = set("""
    type typing typing_extensions enum Enum IntEnum StrEnum Flag IntFlag Generic Protocol ABC ABCMeta namedtuple
    NamedTuple TypedDict TYPE_CHECKING abstractmethod
""".split())

# What is to be walked on the spot, and what walks the first thing that it is passed.
LAZY = {"range", "zip", "enumerate", "reversed"}
VIEWS = {"items", "keys", "values"}
WALKERS = {"list", "tuple", "dict", "sorted", "sum", "any", "all", "enumerate", "zip", "bytes"}
WALKED = """
    for k in range(3): pass
    for k in reversed(range(n)): pass
    xs = list(range(1, n))
    xs = [k for k in table.values() if k in range(3)]
    xs = {name: worth for name, worth in table.items()}
    xs = dict(zip(ones, others))
    xs = sorted(enumerate(zip(ones, others)), reverse=True)
    xs = max(table.values()) + min(range(n), default=0) + len(range(n)) + len(table.items())
    xs = ", ".join(table.keys()) if name in table.keys() else ""
"""
NOT_WALKED = """
    xs = range(1, n)
    xs, ys = range(2)
    xs = ys = zip(ones, others)
    xs: list = enumerate(ones)
    box.rows = reversed(ones)
    box.rows = table.items()
    xs = [range(3)]
    xs = ones or table.values()
    if (xs := table.keys()): pass
    letters(range(1, n), "ask")
    letters(*range(n))
    letters(houses=range(n))
    xs = set(range(3))
    xs = max(range(n), 3)
    xs = sum(ones, range(n))
    for one, k in zip(ones, range(n)): pass
    xs = zip(ones, others)[0]
    xs = len(zip(ones, others))
    for k in reversed(table.items()): pass
    xs = range(n) == ones
    xs = one in zip(ones, others)
    xs = sep.join(table.keys())
    def told(n): return range(n)
    def told(xs=range(3)): pass
"""


def is_lazy(node, names=LAZY, views=VIEWS):
    """Tell whether the node is a call of one of these builtins, or of a method that gives one of these views."""
    if not isinstance(node, ast.Call):
        return False
    if isinstance(node.func, ast.Name):
        return node.func.id in names
    return isinstance(node.func, ast.Attribute) and node.func.attr in views and not node.args


def walked_by(node):
    """The nodes that this one walks on the spot."""
    if isinstance(node, (ast.For, ast.comprehension)):
        return [node.iter]
    if isinstance(node, ast.Compare) and isinstance(node.ops[0], (ast.In, ast.NotIn)):
        return [one for one in node.comparators if is_lazy(one, {"range"}, {"keys"})]
    if not isinstance(node, ast.Call):
        return []
    name = node.func.id if isinstance(node.func, ast.Name) else None
    if name in WALKERS or (name in ("min", "max") and len(node.args) == 1):
        return node.args[:1]
    if name in ("len", "reversed"):
        return [one for one in node.args if is_lazy(one, {"range"}, VIEWS if name == "len" else set())]
    if isinstance(node.func, ast.Attribute) and node.func.attr == "join" and isinstance(node.func.value, ast.Constant):
        return node.args
    return []


def rows_not_walked(tree):
    """The rows with a range, a zip or the like that is not walked on the spot; LANGUAGE.md lets some be kept."""
    walked = {id(one) for node in ast.walk(tree) for one in walked_by(node)}
    return [node.lineno for node in ast.walk(tree) if is_lazy(node) and id(node) not in walked]


def bound_names(tree):
    """All names that the tree binds, but imports: functions, classes, parameters, variables, caught errors."""
    for node in ast.walk(tree):
        if isinstance(node, (ast.FunctionDef, ast.ClassDef)):
            yield node.name
        if isinstance(node, ast.arg):
            yield node.arg
        if isinstance(node, ast.Name) and not isinstance(node.ctx, ast.Load):
            yield node.id
        if isinstance(node, ast.ExceptHandler) and node.name:
            yield node.name


def method_names(tree):
    return {node.name for one in ast.walk(tree) if isinstance(one, ast.ClassDef)
            for node in one.body if isinstance(node, ast.FunctionDef)}


def imported_names(tree):
    return [name.name for node in ast.walk(tree) if isinstance(node, ast.ImportFrom) for name in node.names]


class Language(unittest.TestCase):

    def sources(self):
        for path in FILES:
            if path.suffix == ".py":
                yield path, path.read_text(encoding="utf-8")

    def test_files(self):
        self.assertTrue((FOLDER / "__init__.py").is_file())
        for path in FILES:
            if path.is_file():
                self.assertEqual(path.suffix, ".py", path)
            self.assertEqual(path.name, path.name.lower())

    def test_sizes_and_signs(self):
        for path, text in self.sources():
            lines = text.split("\n")
            self.assertLessEqual(len(lines), 399, path)
            for number, line in enumerate(lines, 1):
                self.assertLessEqual(len(line), 120, (path, number))
                self.assertTrue(all(" " <= sign <= "~" for sign in line), (path, number))
            for node in ast.walk(ast.parse(text)):
                if isinstance(node, ast.FunctionDef):
                    self.assertLessEqual(node.end_lineno - node.lineno + 1, 40, (path, node.name))

    def test_imports(self):
        for path, text in self.sources():
            for node in ast.walk(ast.parse(text)):
                if isinstance(node, ast.Import):
                    self.assertEqual(path.name, "__main__.py")
                    self.assertEqual([name.name for name in node.names], ["sys"])
                if isinstance(node, ast.ImportFrom):
                    names = {name.name for name in node.names}
                    self.assertEqual(node.level, 0, path)
                    if node.module.split(".")[0] != "leftstanding":
                        self.assertLessEqual(names, LIBRARY.get(node.module, set()), path)
                    self.assertNotIn("*", names)

    def test_names(self):
        for path, text in self.sources():
            tree = ast.parse(text)
            imported, methods = imported_names(tree), method_names(tree)
            bound = set(bound_names(tree))
            top = [node.name for node in tree.body if isinstance(node, (ast.FunctionDef, ast.ClassDef))]
            top += [target.id for node in tree.body if isinstance(node, ast.Assign) for target in node.targets]
            self.assertEqual(len(set(top + imported)), len(top + imported), path)
            # A method may have the name of an import, as it is never called by its bare name.
            self.assertFalse((bound - methods) & set(imported), path)
            self.assertFalse((bound - {"__init__", "__eq__"}) & set(dir(builtins)) - {"_"}, path)
            for name in bound:
                self.assertRegex(name, r"\A(_?[A-Za-z][A-Za-z0-9_]*|_|__init__|__eq__)\Z")

    def test_builtins_and_methods(self):
        own = {name for _, text in self.sources() for name in method_names(ast.parse(text))}
        for path, text in self.sources():
            tree = ast.parse(text)
            known = set(bound_names(tree)) | set(imported_names(tree)) | BUILTINS
            for node in ast.walk(tree):
                if isinstance(node, ast.Name):
                    self.assertIn(node.id, known, (path, node.lineno))
                if isinstance(node, ast.Call) and isinstance(node.func, ast.Attribute):
                    self.assertIn(node.func.attr, METHODS | own, (path, node.lineno))

    def test_what_a_class_with_eq_bars(self):
        """No generator expressions, no sort, no sets that are kept, only properties as decorators, `is` with None."""
        for path, text in self.sources():
            for node in ast.walk(ast.parse(text)):
                self.assertNotIsInstance(node, (ast.GeneratorExp, ast.Lambda, ast.Global, ast.Nonlocal, ast.SetComp))
                if isinstance(node, ast.Attribute):
                    self.assertNotIn(node.attr, ("sort", "args"), path)
                for decorator in getattr(node, "decorator_list", ()):
                    self.assertEqual(ast.unparse(decorator), "property")
                if isinstance(node, ast.Compare) and isinstance(node.ops[0], (ast.Is, ast.IsNot)):
                    self.assertIsNone(ast.literal_eval(node.comparators[0]))

    def test_errors_that_are_caught(self):
        errors = ast.parse((FOLDER / "errors.py").read_text(encoding="utf-8"))
        own = {node.name for node in errors.body if isinstance(node, ast.ClassDef)}
        for path, text in self.sources():
            for node in ast.walk(ast.parse(text)):
                if isinstance(node, ast.ExceptHandler):
                    self.assertIn(node.type.id, own, path)
                    self.assertIsNone(node.name)

    def test_ranges_and_the_like_are_walked_on_the_spot(self):
        for path, text in self.sources():
            self.assertEqual(rows_not_walked(ast.parse(text)), [], path)

    def test_which_ranges_and_the_like_are_told(self):
        for line in textwrap.dedent(WALKED).strip().split("\n"):
            self.assertEqual(rows_not_walked(ast.parse(line)), [], line)
        for line in textwrap.dedent(NOT_WALKED).strip().split("\n"):
            self.assertEqual(rows_not_walked(ast.parse("pass\n" + line)), [2], line)

    def test_words_and_strings(self):
        for path, text in self.sources():
            tree = ast.parse(text)
            notes = {ast.get_docstring(node, clean=False) for node in ast.walk(tree)
                     if isinstance(node, (ast.Module, ast.FunctionDef, ast.ClassDef))}
            for node in ast.walk(tree):
                if isinstance(node, ast.Constant) and isinstance(node.value, str) and node.value not in notes:
                    self.assertNotIn("%", node.value, path)
                    self.assertFalse(set(re.findall(r"\w+", node.value)) & WORDS, path)
            for name in list(bound_names(tree)) + imported_names(tree):
                self.assertNotIn(name, WORDS | {"open", "input", "register", "law", "mro", "elements"}, path)

    def test_no_two_files_import_from_each_other(self):
        edges = {}
        for path, text in self.sources():
            edges[path.stem] = {
                node.module.split(".")[1] for node in ast.walk(ast.parse(text))
                if isinstance(node, ast.ImportFrom) and node.module.startswith("leftstanding.")
            }
        while edges:
            free = [name for name in edges if not edges[name] & set(edges)]
            self.assertTrue(free, edges)
            for name in free:
                del edges[name]


if __name__ == "__main__":
    unittest.main()
