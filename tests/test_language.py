"""The rules of the language that later changes break most easily: sizes, signs, imports, names of files."""

import ast
import pathlib
import unittest

import leftstanding

FOLDER = pathlib.Path(leftstanding.__file__).resolve().parent
FILES = [path for path in sorted(FOLDER.rglob("*")) if "__pycache__" not in path.parts]
LIBRARY = {
    "heapq": {"heappush", "heappop", "heapify", "heapreplace", "heappushpop"},
    "math": {"gcd", "lcm", "isqrt", "comb", "perm", "factorial"},
    "itertools": {
        "product", "combinations", "permutations", "chain", "accumulate", "pairwise", "islice", "zip_longest",
    },
    "collections": {"defaultdict", "deque"},
    "__future__": {"annotations"},
}


class Language(unittest.TestCase):

    def sources(self):
        for path in FILES:
            if path.suffix == ".py":
                yield path, path.read_text(encoding="utf-8")

    def test_files(self):
        self.assertTrue((FOLDER / "__init__.py").is_file())
        for path in FILES:
            if path.is_file():
                self.assertEqual(path.suffix, ".py", path)
            self.assertEqual(path.name, path.name.lower())

    def test_sizes_and_signs(self):
        for path, text in self.sources():
            lines = text.split("\n")
            self.assertLessEqual(len(lines), 399, path)
            for number, line in enumerate(lines, 1):
                self.assertLessEqual(len(line), 120, (path, number))
                self.assertTrue(all(" " <= sign <= "~" for sign in line), (path, number))
            for node in ast.walk(ast.parse(text)):
                if isinstance(node, ast.FunctionDef):
                    self.assertLessEqual(node.end_lineno - node.lineno + 1, 40, (path, node.name))

    def test_imports(self):
        for path, text in self.sources():
            for node in ast.walk(ast.parse(text)):
                if isinstance(node, ast.Import):
                    self.assertEqual(path.name, "__main__.py")
                    self.assertEqual([name.name for name in node.names], ["sys"])
                if isinstance(node, ast.ImportFrom):
                    names = {name.name for name in node.names}
                    self.assertEqual(node.level, 0, path)
                    if node.module.split(".")[0] != "leftstanding":
                        self.assertLessEqual(names, LIBRARY.get(node.module, set()), path)
                    self.assertNotIn("*", names)


if __name__ == "__main__":
    unittest.main()
