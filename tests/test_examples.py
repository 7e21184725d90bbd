import doctest
import pathlib
import unittest

from leftstanding.errors import LeftError

HERE = pathlib.Path(__file__).resolve().parent


def outcome(source, names):
    """What the example gives, written as the document writes it: a value, "raises" and the error, or nothing."""
    try:
        code = compile(source, "an example", "eval")
    except SyntaxError:
        exec(source, names)
        return ""
    try:
        return repr(eval(code, names))
    except LeftError as error:
        return f"raises {error.__class__.__name__}({', '.join(map(repr, vars(error).values()))})"


class Examples(unittest.TestCase):

    def test_document(self):
        text = (HERE / "examples.txt").read_text(encoding="utf-8")
        examples = doctest.DocTestParser().get_examples(text)
        self.assertEqual(len(examples), text.count("\n    >>> "))
        names = {}
        for example in examples:
            self.assertEqual(outcome(example.source, names), example.want.rstrip("\n"), example.source)

    def test_readme(self):
        told = doctest.testfile(str(HERE.parent / "README.md"), module_relative=False, encoding="utf-8")
        self.assertGreater(told.attempted, 0)
        self.assertEqual(told.failed, 0)


if __name__ == "__main__":
    unittest.main()
