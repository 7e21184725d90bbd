"""The rules of the language that later changes break most easily: sizes, signs, imports, names, builtins, methods."""

import ast
import builtins
import pathlib
import re
import unittest

import leftstanding

FOLDER = pathlib.Path(leftstanding.__file__).resolve().parent
FILES = [path for path in sorted(FOLDER.rglob("*")) if "__pycache__" not in path.parts]
LIBRARY = {
    "heapq": {"heappush", "heappop", "heapify", "heapreplace", "heappushpop"},
    "math": {"gcd", "lcm", "isqrt", "comb", "perm", "factorial"},
    "itertools": {
        "product", "combinations", "permutations", "chain", "accumulate", "pairwise", "islice", "zip_longest",
    },
    "collections": {"defaultdict", "deque"},
    "__future__": {"annotations"},
}
# As LANGUAGE.md lists them, without chr, which it takes back, and print.
BUILTINS = set("""
    len range enumerate zip min max sum abs sorted reversed int str bool bytes list tuple dict set frozenset isinstance
    ord repr any all divmod pow getattr hasattr setattr iter next map super property staticmethod classmethod Exception
    ValueError TypeError KeyError IndexError LookupError ZeroDivisionError ArithmeticError OverflowError RuntimeError
    NotImplementedError AttributeError StopIteration NotImplemented
""".split())
METHODS = set("""
    append clear copy count endswith extend find get index insert isalnum isalpha isdigit islower isspace isupper items
    join keys ljust lower lstrip partition pop remove replace reverse rfind rjust rpartition rsplit rstrip setdefault
    split splitlines startswith strip update upper values zfill bit_length title capitalize swapcase casefold center
    expandtabs removeprefix removesuffix rindex isascii isdecimal isnumeric istitle isidentifier isprintable sort add
    discard appendleft popleft
""".split())
WORDS = set("""
    type typing typing_extensions enum Enum IntEnum StrEnum Flag IntFlag Generic Protocol ABC ABCMeta namedtuple
    NamedTuple TypedDict TYPE_CHECKING abstractmethod
""".split())


def bound_names(tree):
    """All names that the tree binds, but imports: functions, classes, parameters, variables, caught errors."""
    for node in ast.walk(tree):
        if isinstance(node, (ast.FunctionDef, ast.ClassDef)):
            yield node.name
        if isinstance(node, ast.arg):
            yield node.arg
        if isinstance(node, ast.Name) and not isinstance(node.ctx, ast.Load):
            yield node.id
        if isinstance(node, ast.ExceptHandler) and node.name:
            yield node.name


def method_names(tree):
    return {node.name for one in ast.walk(tree) if isinstance(one, ast.ClassDef)
            for node in one.body if isinstance(node, ast.FunctionDef)}


def imported_names(tree):
    return [name.name for node in ast.walk(tree) if isinstance(node, ast.ImportFrom) for name in node.names]


class Language(unittest.TestCase):

    def sources(self):
        for path in FILES:
            if path.suffix == ".py":
                yield path, path.read_text(encoding="utf-8")

    def test_files(self):
        self.assertTrue((FOLDER / "__init__.py").is_file())
        for path in FILES:
            if path.is_file():
                self.assertEqual(path.suffix, ".py", path)
            self.assertEqual(path.name, path.name.lower())

    def test_sizes_and_signs(self):
        for path, text in self.sources():
            lines = text.split("\n")
            self.assertLessEqual(len(lines), 399, path)
            for number, line in enumerate(lines, 1):
                self.assertLessEqual(len(line), 120, (path, number))
                self.assertTrue(all(" " <= sign <= "~" for sign in line), (path, number))
            for node in ast.walk(ast.parse(text)):
                if isinstance(node, ast.FunctionDef):
                    self.assertLessEqual(node.end_lineno - node.lineno + 1, 40, (path, node.name))

    def test_imports(self):
        for path, text in self.sources():
            for node in ast.walk(ast.parse(text)):
                if isinstance(node, ast.Import):
                    self.assertEqual(path.name, "__main__.py")
                    self.assertEqual([name.name for name in node.names], ["sys"])
                if isinstance(node, ast.ImportFrom):
                    names = {name.name for name in node.names}
                    self.assertEqual(node.level, 0, path)
                    if node.module.split(".")[0] != "leftstanding":
                        self.assertLessEqual(names, LIBRARY.get(node.module, set()), path)
                    self.assertNotIn("*", names)

    def test_names(self):
        for path, text in self.sources():
            tree = ast.parse(text)
            imported, methods = imported_names(tree), method_names(tree)
            bound = set(bound_names(tree))
            top = [node.name for node in tree.body if isinstance(node, (ast.FunctionDef, ast.ClassDef))]
            top += [target.id for node in tree.body if isinstance(node, ast.Assign) for target in node.targets]
            self.assertEqual(len(set(top + imported)), len(top + imported), path)
            # A method may have the name of an import, as it is never called by its bare name.
            self.assertFalse((bound - methods) & set(imported), path)
            self.assertFalse((bound - {"__init__", "__eq__"}) & set(dir(builtins)) - {"_"}, path)
            for name in bound:
                self.assertRegex(name, r"\A(_?[A-Za-z][A-Za-z0-9_]*|_|__init__|__eq__)\Z")

    def test_builtins_and_methods(self):
        own = {name for _, text in self.sources() for name in method_names(ast.parse(text))}
        for path, text in self.sources():
            tree = ast.parse(text)
            known = set(bound_names(tree)) | set(imported_names(tree)) | BUILTINS
            for node in ast.walk(tree):
                if isinstance(node, ast.Name):
                    self.assertIn(node.id, known, (path, node.lineno))
                if isinstance(node, ast.Call) and isinstance(node.func, ast.Attribute):
                    self.assertIn(node.func.attr, METHODS | own, (path, node.lineno))

    def test_what_a_class_with_eq_bars(self):
        """No generator expressions, no sort, no sets that are kept, only properties as decorators, `is` with None."""
        for path, text in self.sources():
            for node in ast.walk(ast.parse(text)):
                self.assertNotIsInstance(node, (ast.GeneratorExp, ast.Lambda, ast.Global, ast.Nonlocal, ast.SetComp))
                if isinstance(node, ast.Attribute):
                    self.assertNotIn(node.attr, ("sort", "args"), path)
                for decorator in getattr(node, "decorator_list", ()):
                    self.assertEqual(ast.unparse(decorator), "property")
                if isinstance(node, ast.Compare) and isinstance(node.ops[0], (ast.Is, ast.IsNot)):
                    self.assertIsNone(ast.literal_eval(node.comparators[0]))

    def test_errors_that_are_caught(self):
        errors = ast.parse((FOLDER / "errors.py").read_text(encoding="utf-8"))
        own = {node.name for node in errors.body if isinstance(node, ast.ClassDef)}
        for path, text in self.sources():
            for node in ast.walk(ast.parse(text)):
                if isinstance(node, ast.ExceptHandler):
                    self.assertIn(node.type.id, own, path)
                    self.assertIsNone(node.name)

    def test_words_and_strings(self):
        for path, text in self.sources():
            tree = ast.parse(text)
            notes = {ast.get_docstring(node, clean=False) for node in ast.walk(tree)
                     if isinstance(node, (ast.Module, ast.FunctionDef, ast.ClassDef))}
            for node in ast.walk(tree):
                if isinstance(node, ast.Constant) and isinstance(node.value, str) and node.value not in notes:
                    self.assertNotIn("%", node.value, path)
                    self.assertFalse(set(re.findall(r"\w+", node.value)) & WORDS, path)
            for name in list(bound_names(tree)) + imported_names(tree):
                self.assertNotIn(name, WORDS | {"open", "input", "register", "law", "mro", "elements"}, path)

    def test_no_two_files_import_from_each_other(self):
        edges = {}
        for path, text in self.sources():
            edges[path.stem] = {
                node.module.split(".")[1] for node in ast.walk(ast.parse(text))
                if isinstance(node, ast.ImportFrom) and node.module.startswith("leftstanding.")
            }
        while edges:
            free = [name for name in edges if not edges[name] & set(edges)]
            self.assertTrue(free, edges)
            for name in free:
                del edges[name]


if __name__ == "__main__":
    unittest.main()
