import re
import unittest

from leftstanding.deedtexts import deeds_text, read_deeds
from drawn import Draw, drawn_run
from samples import PAIR, any_values, longest, raised, returned, same

EVERY = [("row", house, k) for house in range(4) for k in range(12)] + [
    (word, house) for word in ("send", "fall") for house in range(4)]
BAD = ("BadText", {})
DEED = r"(row [0-3] ([0-9]|10|11)|(send|fall) [0-3])"


def told_deeds(text):
    """The deeds that the text tells, None if it tells none: read by a pattern, as a whole."""
    if text == "none":
        return ()
    if not re.fullmatch(DEED + "(; " + DEED + "){0,199}", text):
        return None
    found = []
    for part in text.split(";"):
        word, *integers = part.split()
        found.append((word,) + tuple(int(integer) for integer in integers))
    return tuple(found)


class DeedTexts(unittest.TestCase):

    def check_bad(self, *values):
        for value in values:
            self.assertEqual(raised(read_deeds, value), BAD, f"{value!r:.300}")

    def check_text(self, text):
        """The text of deeds, or of none, as the pattern tells."""
        expected = told_deeds(text)
        if expected is None:
            self.check_bad(text)
        else:
            self.assertTrue(same(returned(read_deeds, text), expected), text)
        return expected is not None

    def check_back(self, deeds):
        text = returned(deeds_text, deeds)
        self.assertTrue(same(returned(read_deeds, text), deeds))
        return text

    def test_each_deed(self):
        for deed in EVERY:
            self.assertEqual(self.check_back((deed,)), f"{deed[0]} " + " ".join(str(item) for item in deed[1:]))
        self.assertEqual(self.check_back((("row", 3, 11), ("send", 0), ("fall", 3))), "row 3 11; send 0; fall 3")
        self.assertEqual(self.check_back((("row", 0, 0),) * 2), "row 0 0; row 0 0")

    def test_there_and_back(self):
        draw = Draw(7)
        for many in list(range(12)) + [50, 100, 198, 199, 200]:
            deeds = tuple(draw.pick(EVERY) for _ in range(many))
            text = self.check_back(deeds)
            self.assertTrue(self.check_text(text))
            self.assertEqual(text.count(";"), max(many - 1, 0))
        for agreement in (PAIR, longest(True)):
            for seed in range(5):
                self.check_back(drawn_run(agreement, seed))
        self.check_back(drawn_run(longest(False), 0, falls=0) + tuple(("fall", house) for house in range(4)))

    def test_unlike_deeds_have_unlike_texts(self):
        rows = [()] + [(one,) for one in EVERY] + [(one, other) for one in EVERY for other in EVERY]
        self.assertEqual(len({deeds_text(row) for row in rows}), len(rows))

    def test_no_deeds(self):
        self.assertEqual(returned(deeds_text, ()), "none")
        self.assertEqual(returned(read_deeds, "none"), ())
        self.check_bad("", " ", "None", "none ", " none", "none; none", "none; send 0", "send 0; none", "NONE", "non",
                       "nonee", "none;", "none\n", "()", "no", "no deeds")

    def test_too_many(self):
        for text in ("fall 0", "row 3 11", "send 2"):
            for many in (199, 200, 201, 202, 1000):
                self.assertEqual(self.check_text("; ".join([text] * many)), many <= 200)
            self.assertEqual(len(read_deeds("; ".join([text] * 200))), 200)

    def test_houses_and_rows(self):
        for number in list(range(-3, 30)) + [99, 100, 10 ** 399, -(10 ** 399)]:
            self.assertEqual(self.check_text(f"send {number}"), number in range(4))
            self.assertEqual(self.check_text(f"fall {number}"), number in range(4))
            self.assertEqual(self.check_text(f"row {number} 0"), number in range(4))
            self.assertEqual(self.check_text(f"row 0 {number}"), number in range(12))
            self.assertEqual(self.check_text(f"send 0; fall {number}; row 1 1"), number in range(4))
            self.assertEqual(self.check_text(f"send 0; row 3 {number}; row 1 1"), number in range(12))

    def test_integers_that_are_not_written_so(self):
        for wrong in (
                "", "00", "01", "001", "+1", "-1", "-0", "1_0", "1.0", "1.", "0x1", "1e0", "one", "True", "a", "b",
                "\u0661", "\u00b9", "\uff11", "1\n", "\t1", "1,", "(1)", "9" * 4400, "0" * 4400 + "1", "1" * 19000):
            for text in ("send {}", "fall {}", "row {} 0", "row 0 {}", "send 1; fall {}", "row 1 {}; send 1"):
                self.check_bad(text.format(wrong))

    def test_blanks_and_semicolons(self):
        good = "row 0 11; send 2; fall 3"
        self.assertTrue(self.check_text(good))
        for sign in (
                " ", ";", "; ", " ;", ";;", "\n", "\t", "\r", "\x0b", "\x0c", "\x85", "\xa0", "\u2003", ",", ".", ""):
            for place in range(len(good) + 1):
                self.check_text(good[:place] + sign + good[place:])
                self.check_text(good[:place] + sign + good[place + 1:])
            if sign:
                self.check_bad(sign + good, good + sign, good.replace(" ", sign + " "))
            self.check_bad(good.replace("; ", ";" + sign) if sign != " " else "send 0 ; send 1")

    def test_words_and_how_many_integers(self):
        for text in (
                "row", "row ", "row 0", "row 0 ", "row 0 0 0", "row 0 0 ", "send", "send ", "send 0 0", "fall", "fall ",
                "fall 0 0", " fall 0", "fall  0", "Fall 0", "FALL 0", "falls 0", "fal 0", "sends 0", "rows 0 0",
                "Row 0 0", "late 0 0", "bind 0", "end 0", "0 fall", "0", "0 0", "0 0 row", "fall0", "fall:0", "send,0",
                "undo", "fall 0 row 0 0", "fall 0 fall 0", "row 0 0 fall 0", "row send 0", "('fall', 0)", "fall none"):
            self.check_bad(text, text + "; send 0", "send 0; " + text, f"fall 1; {text}; fall 2")

    def test_values_of_all_kinds(self):
        self.check_bad(*any_values())
        self.check_bad((("fall", 0),), [("fall", 0)], ("fall", 0), ["fall 0"], ("fall 0",), ("none",), {"fall 0": 0})

    def test_long_strings(self):
        for sign in "f; 0rn\n":
            self.check_bad(sign * 20000, ("send 0" + sign * 20000)[:20000], (sign * 20000 + "send 0")[-20000:])
        for piece in ("; ", "fall 0; ", "fall 0;", "none; ", "row 0 0 ", "row 0 "):
            self.check_bad((piece * 20000)[:20000])


if __name__ == "__main__":
    unittest.main()
