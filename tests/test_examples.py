import doctest
import pathlib
import unittest

HERE = pathlib.Path(__file__).resolve().parent


class Examples(unittest.TestCase):

    def check(self, path):
        told = doctest.testfile(str(path), module_relative=False, encoding="utf-8")
        self.assertGreater(told.attempted, 0)
        self.assertEqual(told.failed, 0)

    def test_document(self):
        self.check(HERE / "examples.txt")

    def test_readme(self):
        self.check(HERE.parent / "README.md")


if __name__ == "__main__":
    unittest.main()
