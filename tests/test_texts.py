import re
import unittest

from leftstanding.books import agreement_error
from leftstanding.texts import agreement_text, read_agreement
from drawn import drawn_agreements
from samples import (
    AGREED, AGREEMENTS, COIN, DEAF, FULL, HASTY, LATE, LONE, PAIR, any_values, longest, raised, returned, same,
)

SAMPLES = AGREEMENTS + (PAIR, LATE, HASTY, DEAF, (LONE,) * 3, longest(True), longest(False))
BAD = ("BadText", {})

ROW = re.compile(r"row ([0-9]) ([0-9])((?: <[0-9]\.[a-z]{1,6})*)((?: >[0-9]\.[a-z]{1,6})*)( late)?")


def told_text(agreement):
    """The text of the agreement, put together once more from what Python writes."""
    lines = []
    for kinds, rows in agreement:
        lines.append("house " + " ".join(kinds))
        for state, takes, onto, sends, late in rows:
            pairs = "".join(f" {sign}{house:d}.{word}" for sign, many in (("<", takes), (">", sends))
                            for house, word in many)
            lines.append(f"row {state:d} {onto:d}{pairs}{' late' * late}")
    return "\n".join(lines)


def told_agreement(text):
    """The agreement that the text tells, None if it tells none: read by patterns, line by line."""
    books = []
    for line in text.split("\n"):
        row = ROW.fullmatch(line)
        if re.fullmatch(r"house( (open|yes|done|off))+", line):
            books.append((tuple(line.split(" ")[1:]), []))
        elif row and books:
            takes, sends = (
                tuple((int(item[0]), item[2:]) for item in re.split(r" [<>]", row[group])[1:]) for group in (3, 4)
            )
            books[-1][1].append((int(row[1]), takes, int(row[2]), sends, row[5] is not None))
        else:
            return None
    agreement = tuple((kinds, tuple(rows)) for kinds, rows in books)
    return agreement if agreement_error(agreement) is None else None


class Case(unittest.TestCase):

    def check_bad(self, *values):
        for value in values:
            self.assertEqual(raised(read_agreement, value), BAD, f"{value!r:.300}")

    def check_text(self, text):
        """The text of an agreement, or of none, as the patterns tell."""
        expected = told_agreement(text)
        if expected is None:
            self.check_bad(text)
        else:
            self.assertTrue(same(returned(read_agreement, text), expected), text)
        return expected is not None


class Texts(Case):

    def test_there_and_back(self):
        for agreement in SAMPLES + tuple(drawn_agreements(60)) + tuple(
                drawn_agreements(30, states=8, rows=12, takes=4, sends=6, words=("a", "zzzzzz", "mid"))):
            text = returned(agreement_text, agreement)
            self.assertEqual(text, told_text(agreement))
            self.assertTrue(same(returned(read_agreement, text), agreement))
            self.assertTrue(self.check_text(text))

    def test_signs_of_some(self):
        self.assertEqual(agreement_text(COIN), "house yes done off\nrow 0 1 >1.do\nrow 0 2 >1.off\n"
                         "house yes done off\nrow 0 1 <0.do\nrow 0 2 <0.off")
        text = agreement_text(FULL)
        self.assertEqual(text.split("\n")[:4], [
            "house open", "house yes off", "row 0 1 late", "house open yes yes open off done yes done",
        ])
        self.assertIn("\nrow 0 1 <0.a <0.zzzzzz <1.abcdef <3.b >3.z >0.zzzzzz >0.a >3.a >1.abcdef >1.a late\n", text)
        self.assertEqual(text.split("\n")[-1], "row 0 1 <0.a <2.z >2.b")
        self.assertEqual(agreement_text(((("open",), ()),) * 2), "house open\nhouse open")

    def test_unlike_agreements_have_unlike_texts(self):
        agreements = SAMPLES + tuple(drawn_agreements(200, states=2, rows=1, takes=1, sends=1))
        for one in agreements:
            for other in agreements:
                self.assertEqual(agreement_text(one) == agreement_text(other), one == other)

    def test_bounds_of_texts(self):
        house = "house " + " ".join(("yes",) * 8)
        rows = "\n".join(["row 0 7"] * 12)
        pairs = " <0.a <0.b <1.abcdef <2.a >0.a >0.b >1.a >2.zzzzzz >2.a >1.b"
        for houses in (2, 3, 4):
            self.assertTrue(self.check_text("\n".join([house + "\n" + rows] * houses)))
        for text in (f"row 6 7{pairs}", f"row 0 1{pairs} late"):
            self.assertTrue(self.check_text(f"{house}\n{house}\n{house}\n{house}\n{text}"))
        for wrong in ("\n" + rows + "\nrow 0 1", " yes", "\nrow 0 8", "\nrow 7 8", "\nrow 0 9", "\nrow 7 7"):
            self.assertFalse(self.check_text("house open\n" + house + wrong))
        for wrong in (" <0.a <0.b <1.a <1.b <2.a", " <0.abcdefg", " >0.abcdefg", " <3.a", " >3.a", " <4.a", " <9.a",
                      " >0.a >0.b >0.c >0.d >0.e >0.f >0.g", " >0.a >0.a", " <0.a <0.a", " <0.b <0.a", " <1.a <0.b"):
            self.assertFalse(self.check_text(f"{house}\n{house}\n{house}\n{house}\nrow 0 1{wrong}"))
        self.check_bad(house, house + "\n" + rows, "\n".join([house] * 5), "\n".join([house] * 2000))


class NoTexts(Case):

    def test_values_that_are_no_strings(self):
        self.check_bad(*any_values())
        for agreement in SAMPLES:
            text = agreement_text(agreement)
            self.check_bad(agreement, [text], (text,), {text: text}, text.split("\n"), {0: [text]}, (text, None))

    def test_long_strings(self):
        text = agreement_text(COIN)
        for sign in "h 0r<>.\n9~":
            self.check_bad(sign * 20000, (text + sign * 20000)[:20000], (sign * 20000 + text)[-20000:])
        for piece in ("house open\n", "row 0 1\n", "house yes\nrow 0 1\n", "row 0 1 ", "house ", "late ", " <0.a"):
            long = (piece * 20000)[:19900]
            self.check_bad(long, text + long, "house yes yes\n" + long, text + "\n" + long)

    def test_integers(self):
        lines = "house yes yes yes\nrow {} {} <{}.a >{}.b\nhouse open"
        self.assertTrue(self.check_text(lines.format(1, 2, 1, 1)))
        wrongs = ("", "00", "01", "02", "001", "+1", "-1", "-0", "1 ", " 1", "1_0", "1_", "1.0", "0x1", "1e0", "1j",
                  "one", "True", "None", "\u0661", "\u00b9", "\u2460", "9", "10", "12", "9" * 400, "0" * 400 + "1",
                  "1" * 19000, "1\n", "\t1", "1,")
        for place in range(4):
            for wrong in wrongs:
                integers = [1, 2, 1, 1]
                integers[place] = wrong
                self.assertFalse(self.check_text(lines.format(*integers)), integers)

    def test_blanks_and_line_feeds(self):
        blanks = (" ", "  ", "\n", "\n\n", " \n", "\n ", "\t", "\r", "\r\n", "\x0b", "\x0c", "\x1c", "\x85", "\xa0",
                  "\u2003", "\u2028", "\u3000", "\ufeff", "\x00")
        for agreement in (COIN, PAIR, LATE):
            text = agreement_text(agreement)
            places = [0, len(text)] + [k for k, sign in enumerate(text) if sign in " \n"]
            for blank in blanks:
                for place in places:
                    self.check_text(text[:place] + blank + text[place:])
                    if text[place:place + 1] != blank:
                        self.check_bad(text[:place] + blank + text[place + 1:])
                self.check_bad(blank + text, text + blank, text.replace(" ", blank + " "), blank.join(text))

    def test_order_of_items(self):
        good = "house yes yes\nrow 0 1 <1.a <1.b >1.c >1.d late\nhouse open"
        self.assertTrue(self.check_text(good))
        for other, is_text in (
                ("<1.a <1.b late", True), (">1.d >1.c late", True), ("late", True), (">1.d >1.c", True),
                (">1.c <1.a late", False), ("<1.a >1.c <1.b", False), ("late <1.a", False), ("<1.a late >1.c", False),
                ("late late", False), ("<1.a late late", False), ("late >1.c", False), ("late ", False),
                (" late", False), ("Late", False), ("lat", False), ("later", False), ("<1.late", True),
                ("<late", False), ("< 1.a", False), ("<1. a", False), ("<1 .a", False), ("<1a", False),
                ("1.a", False), (".a", False), ("<.a", False), ("<1.", False), ("<1.A", False), ("<1.a1", False),
                ("<1.a.b", False), ("<1..a", False), ("<<1.a", False), ("<>1.a", False), ("=1.a", False),
                ("<1.a,", False), ("<1.a;", False), ("<1.{", False), ("<1.`", False), ("<0.a", False),
                (">0.a", False), ("<2.a", False), ("row", False), ("0", False), ("", False)):
            self.assertEqual(self.check_text(f"house yes yes\nrow 0 1 {other}\nhouse open"), is_text, other)

    def test_lines_of_no_kind(self):
        for line in ("", " ", "house", "house ", "Row 0 1", "ROW 0 1", "rows 0 1", "row", "row ", "row 0", "row 0 ",
                     "row  0 1", " row 0 1", "House yes", "houses yes", "home yes", "hous yes", "house yes  yes",
                     "house yes,off", "house no", "house done", "house off", "house Yes", "house yes 0", "late",
                     "<1.a", "none", "0 1", "text", "#", "row 1 0", "row 0 0", "row -1 1", "row 0 yes", "row yes off"):
            self.check_bad(f"house yes off\n{line}\nhouse open", f"{line}\nhouse yes off\nhouse open")
            self.check_bad(f"house yes off\nhouse open\n{line}")
        self.check_bad("row 0 1", "row 0 1\nhouse yes off\nhouse yes off", "row 0 1\n" + agreement_text(AGREED))

    def test_each_sign(self):
        """Each sign left out, doubled, changed, and swapped with the next one."""
        letters = " \n.<>0129aehlorstuwyAZ;,-+_"
        for text in (agreement_text(COIN), "house yes yes\nrow 0 1 <1.a <1.b >1.c >1.a late\nhouse open off\nrow 0 1"):
            texts = 0
            for k in range(len(text)):
                texts += self.check_text(text[:k] + text[k + 1:])
                texts += self.check_text(text[:k] + text[k + 1:k + 2] + text[k:k + 1] + text[k + 2:])
                for letter in letters:
                    texts += self.check_text(text[:k] + letter + text[k:])
                    texts += self.check_text(text[:k] + letter + text[k + 1:])
            self.assertGreater(texts, 50)

    def test_words_in_other_places(self):
        words = "house row late yes open done off 0 1 2 <0.a <1.a >0.a >1.a".split() + [""]
        text = "house yes off yes\nrow 0 1 <1.a >1.b late\nrow 0 2\nhouse open"
        lines = [line.split(" ") for line in text.split("\n")]
        for line, items in enumerate(lines):
            for place in range(len(items)):
                for more in (0, 1):
                    for word in words:
                        other = list(lines)
                        other[line] = items[:place] + [word] + items[place + more:]
                        self.check_text("\n".join(" ".join(one) for one in other))


if __name__ == "__main__":
    unittest.main()
