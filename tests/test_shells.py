import unittest

from leftstanding.costs import quickest, spent
from leftstanding.deedtexts import deeds_text
from leftstanding.desks import Desk
from leftstanding.errors import LeftError
from leftstanding.falls import bears, least_blocks
from leftstanding.lates import late_ones
from leftstanding.makers import central, central_three, chain, everyone
from leftstanding.mending import mended
from leftstanding.reaches import clash, road, stuck
from leftstanding.shells import Shell
from leftstanding.texts import agreement_text
from leftstanding.twins import twins
from drawn import Draw, drawn_agreements, small_ones
from model import all_standings
from samples import (
    AGREED, CLASHING, COIN, DEAF, FULL, HASTY, LATE, LONE, PAIR, READY, SPREAD, SPREAD_LATE, TRIO, UNLIKE, WILLING,
    any_values, everyone as everyone_told, full_reach, longest, same,
)
from test_desks import drawn_edits, edit_on, state
from test_falls import GIVING, THREE_KNOW

EDITS = ("mend ready", "row 0 0", "send 0", "fall 1", "later 0 0", "undo")
LOOKS = ("text", "show", "open", "road 1", "clash", "stuck", "end 0", "bold 1", "twins 1", "bears", "blocks", "late 0",
         "spent done", "spent off", "quick done", "quick off")
SAMPLES = (COIN, AGREED, PAIR, SPREAD, SPREAD_LATE, READY, HASTY, UNLIKE, TRIO, DEAF) + tuple(
    own for own in small_ones(60) if len(all_standings(own, len(own) - 1)) <= 120)


def text_line(agreement):
    return "agreement " + agreement_text(agreement).replace("\n", ";")


def shell_of(agreement, *lines):
    shell = Shell()
    assert shell.say(text_line(agreement)) == "version 0"
    for line in lines:
        assert shell.say(line).startswith("version"), line
    return shell


def edit_line(edit):
    """The line of an edit of a desk."""
    return " ".join(["later" if edit[0] == "late" else edit[0]] + [str(item) for item in edit[1:]])


def told_show(desk):
    states, doing, letters, fallen = desk.standing
    houses = []
    for house in range(len(states)):
        text = f"{house} {states[house]} {desk.agreement[house][0][states[house]]}"
        text += " fallen" if house in fallen else ""
        text += f" doing {doing[house][0]} {doing[house][1]}" if doing[house] else ""
        for sender, receiver, word in letters:
            text += f" <{sender}.{word}" if receiver == house else ""
        houses.append(text)
    return "; ".join(houses)


def or_none(text):
    return text if text else "none"


def told_look(desk, line):
    """What a look answers, by what the desk and the functions tell; LeftErrors as they are raised."""
    agreement, (word, *items) = desk.agreement, line.split(" ")
    most = int(items[0]) if items and items[0] not in ("done", "off") else None
    if most is not None and most >= len(agreement):
        return "error Unfit"
    try:
        if word == "text":
            return ";".join(agreement_text(agreement).split("\n"))
        if word == "show":
            return told_show(desk)
        if word == "open":
            return or_none("; ".join(" ".join(str(item) for item in deed) for deed in desk.open_ones()))
        if word in ("road", "clash", "stuck"):
            found = {
                "road": lambda: road(agreement, most, desk.standing),
                "clash": lambda: clash(agreement), "stuck": lambda: stuck(agreement),
            }[word]()
            return "never" if found is None else deeds_text(found)
        if word in ("end", "bold"):
            return desk.end(most, word == "bold")
        if word == "twins":
            found = twins(agreement, most)
            return "none" if found is None else f"{deeds_text(found[0])} / {deeds_text(found[1])}"
        if word == "bears":
            return f"{bears(agreement)}"
        if word == "blocks":
            return or_none(" ".join(",".join(map(str, lot)) or "-" for lot in least_blocks(agreement)))
        if word == "late":
            return or_none(" ".join(f"{house}.{k}" for house, k in late_ones(agreement, most)))
        if word == "spent":
            return or_none(" ".join(map(str, spent(agreement, items[0]) or ())))
        found = quickest(agreement, items[0])
        return "none" if found is None else f"{found}"
    except LeftError as error:
        return f"error {error.__class__.__name__}"


def told_edit(desk, line):
    """What an edit answers, done on the desk."""
    word, *items = line.split(" ")
    items = [int(item) for item in items]
    try:
        if word == "undo":
            return f"version {desk.undo()}"
        if word == "later":
            return f"version {desk.make_late(*items)}"
        return f"version {desk.do((word, *items))}"
    except LeftError as error:
        return f"error {error.__class__.__name__}"


class SetUp(unittest.TestCase):

    def test_agreements(self):
        for agreement in SAMPLES + tuple(drawn_agreements(60)) + (FULL, longest(True), longest(False), (LONE,) * 4):
            shell = Shell()
            self.assertEqual(shell.say(text_line(agreement)), "version 0")
            self.assertEqual("agreement " + shell.say("text"), text_line(agreement))
            self.assertEqual(shell.say("show"), told_show(Desk(agreement)))

    def test_bad_texts(self):
        good = text_line(COIN)
        texts = ["", " ", " house open;house open", "house open;house open ", "house open", "house open;house open;",
                 ";house open;house open", "house open;;house open", "house open; house open", "none", "row 0 0",
                 "house open\nhouse open", "house open;house open\n", "\nhouse open;house open", "house open,house open",
                 "House open;house open", "house Open;house open", "house done;house open", "x" * 19000, ";" * 5000,
                 "house open;house open;house open;house open;house open", agreement_text(COIN), good, "\n", ";"]
        texts += [good[10:].replace(";", "\n", 1), good[10:].replace(" ", "  ", 1), good[10:] + ";", " " + good[10:]]
        for text in texts:
            for shell in (Shell(), shell_of(AGREED, "row 0 0")):
                before = shell.say("show"), shell.say("text")
                self.assertEqual(shell.say("agreement " + text), "error BadText", text)
                self.assertEqual((shell.say("show"), shell.say("text")), before)

    def test_makers(self):
        for maker, make in (("central", central), ("three", central_three), ("everyone", everyone), ("chain", chain)):
            for n in (2, 3, 4):
                for shell in (Shell(), shell_of(COIN, "row 0 0")):
                    self.assertEqual(shell.say(f"make {maker} {n}"), "version 0")
                    self.assertEqual("agreement " + shell.say("text"), text_line(make(n)))
                    self.assertEqual(shell.say("show"), told_show(Desk(make(n))))
                    self.assertEqual(shell.say("undo"), "error NothingToUndo")
            for n in [0, 1] + list(range(5, 100)):
                shell = shell_of(COIN, "row 0 0")
                self.assertEqual(shell.say(f"make {maker} {n}"), "error Unfit")
                self.assertEqual(Shell().say(f"make {maker} {n}"), "error Unfit")
                self.assertEqual(shell.say("send 0"), "version 2")

    def test_mend(self):
        shell = shell_of(COIN, "row 0 0", "send 0", "later 1 0")
        self.assertEqual(shell.say("mend do"), "error Unfit")
        self.assertEqual(shell.say("fall 1"), "version 4")
        self.assertEqual(shell.say("mend ready"), "version 0")
        late = Desk(COIN)
        late.make_late(1, 0)
        self.assertEqual("agreement " + shell.say("text"), text_line(mended(late.agreement, "ready")))
        self.assertEqual(shell.say("show"), "0 0 yes; 1 0 yes")
        self.assertEqual(shell.say("undo"), "error NothingToUndo")
        self.assertEqual(shell.say("mend ready"), "error Unfit")
        self.assertEqual([shell.say(f"mend {word}") for word in ("a", "b", "c", "d", "e")],
                         ["version 0"] * 4 + ["error TooMany"])
        self.assertEqual(shell.say("undo"), "error NothingToUndo")

    def test_a_new_desk_takes_the_place_of_the_old_one(self):
        shell = shell_of(COIN, "row 0 0")
        self.assertEqual(shell.say(text_line(AGREED)), "version 0")
        self.assertEqual(shell.say("undo"), "error NothingToUndo")
        self.assertEqual(shell.say("show"), "0 0 open; 1 0 open")


class Edits(unittest.TestCase):

    def test_side_by_side_with_a_desk(self):
        """Edits and looks drawn at once, some of which cannot be done."""
        answers = {}
        for seed, agreement in enumerate(SAMPLES):
            draw, shell, desk = Draw(seed), shell_of(agreement), Desk(agreement)
            for edit in drawn_edits(agreement, seed, 14):
                lines = ["undo" if edit == "undo" else edit_line(edit)]
                wrong = [f"{word} {draw.below(5)}" for word in ("send", "fall")] + [
                    f"{word} {draw.below(4)} {draw.below(5)}" for word in ("row", "later")]
                lines = [draw.pick(wrong)] * (draw.below(4) == 0) + lines
                for line in lines:
                    expected = told_edit(desk, line)
                    self.assertEqual(shell.say(line), expected, line)
                    answers[expected.split(" ")[0]] = answers.get(expected.split(" ")[0], 0) + 1
                self.assertEqual(shell.say("show"), told_show(desk))
                self.assertEqual(shell.say("open"), told_look(desk, "open"))
                if draw.below(4) == 0:
                    self.check_looks(shell, desk)
        self.assertGreater(min(answers.values()), 50)

    def check_looks(self, shell, desk):
        before = state(desk)
        houses = len(desk.agreement)
        for word in ("road", "end", "bold", "twins", "late"):
            for most in list(range(houses + 2)) + [10, 99]:
                line = f"{word} {most}"
                self.assertEqual(shell.say(line), told_look(desk, line), line)
        for line in LOOKS:
            self.assertEqual(shell.say(line), told_look(desk, line), line)
        self.assertEqual(state(desk), before)
        self.assertEqual(shell.say("show"), told_show(desk))

    def test_lines_of_a_desks_edits_lead_to_the_same_desk(self):
        for seed, agreement in enumerate(SAMPLES + tuple(drawn_agreements(60)) + (everyone_told(4), WILLING)):
            desk, shell = Desk(agreement), shell_of(agreement)
            for place, edit in enumerate(drawn_edits(agreement, seed, 25, back=False)):
                self.assertEqual(edit_on(desk, edit), place + 1)
                self.assertEqual(shell.say(edit_line(edit)), f"version {place + 1}")
            self.assertEqual("agreement " + shell.say("text"), text_line(desk.agreement))
            self.assertEqual(shell.say("show"), told_show(desk))
            while desk.version:
                self.assertEqual(shell.say("undo"), f"version {desk.undo()}")
                self.assertEqual("agreement " + shell.say("text"), text_line(desk.agreement))
                self.assertEqual(shell.say("show"), told_show(desk))
            self.assertEqual(shell.say("undo"), "error NothingToUndo")

    def test_errors(self):
        shell = shell_of(COIN, "row 0 0")
        for line, answer in (
                ("row 9 9", "error Refused"), ("row 0 0", "error Refused"), ("send 1", "error Refused"),
                ("send 99", "error Refused"), ("fall 2", "error Refused"), ("row 1 0", "error Refused"),
                ("later 0 0", "error Unfit"), ("later 2 0", "error Unfit"), ("later 1 2", "error Unfit"),
                ("later 99 99", "error Unfit"), ("mend off", "error Unfit"), ("agreement x", "error BadText"),
                ("make chain 1", "error Unfit")):
            self.assertEqual(shell.say(line), answer, line)
        self.assertEqual(shell.say("show"), "0 1 done doing 0 0; 1 0 yes")
        self.assertEqual(shell.say("undo"), "version 0")
        self.assertEqual(shell.say("undo"), "error NothingToUndo")

    def test_sixty(self):
        shell, desk = shell_of(longest(False)), Desk(longest(False))
        for place in range(60):
            edit = [deed for deed in desk.open_ones() if deed[0] != "fall"][0]
            desk.do(edit)
            self.assertEqual(shell.say(edit_line(edit)), f"version {place + 1}")
        for line, answer in (("fall 0", "error TooManyEdits"), ("later 3 6", "error TooManyEdits"),
                             ("fall 4", "error Refused"), ("later 4 0", "error Unfit"), ("later 3 7", "error Unfit")):
            self.assertEqual(shell.say(line), answer)
        self.assertEqual(shell.say("show"), told_show(desk))
        self.assertEqual([shell.say(line) for line in ("undo", "fall 0", "fall 1", "undo")],
                         ["version 59", "version 60", "error TooManyEdits", "version 59"])


class Looks(unittest.TestCase):

    def test_some(self):
        for agreement, lines, looks in (
                (COIN, (), {"text": "house yes done off;row 0 1 >1.do;row 0 2 >1.off;house yes done off;row 0 1 <0.do;"
                            "row 0 2 <0.off", "show": "0 0 yes; 1 0 yes", "open": "fall 0; fall 1; row 0 0; row 0 1",
                            "road 0": "none", "road 1": "none", "clash": "never", "stuck": "never", "end 0": "off",
                            "bold 0": "done", "end 1": "error Unfit", "twins 0": "none",
                            "twins 1": "row 0 0; fall 0 / row 0 1; fall 0", "bears": "0", "blocks": "0",
                            "late 0": "0.0 0.1 1.0 1.1", "late 1": "0.0 0.1", "spent done": "1 1 2 2",
                            "quick done": "1"}),
                (COIN, ("row 0 0", "send 0", "fall 1"), {
                    "show": "0 1 done; 1 0 yes fallen <0.do", "open": "fall 0", "road 0": "never",
                    "road 1": "fall 1; row 0 0; send 0", "bold 1": "error Unfit"}),
                (COIN, ("fall 0", "fall 1"), {
                    "show": "0 0 yes fallen; 1 0 yes fallen", "open": "none", "road 1": "never", "end 0": "error Unfit"}),
                (COIN, ("later 0 0", "later 0 1", "row 0 0", "fall 0"), {
                    "show": "0 0 yes fallen; 1 0 yes", "twins 1": "none", "bears": "1", "blocks": "none",
                    "late 1": "1.0 1.1", "late 0": "1.0 1.1"}),
                (UNLIKE, (), {"bears": "-1", "blocks": "-", "clash": "row 0 0; row 1 0", "stuck": "never",
                              "twins 0": "row 0 0; row 1 0 / row 0 0; row 1 0", "late 0": "none", "late 1": "none",
                              "spent done": "none", "spent off": "none", "quick done": "none", "quick off": "none"}),
                (((("open",), ()), (("yes",), ())), (), {"stuck": "none", "late 0": "none", "open": "fall 0; fall 1"}),
                (GIVING, (), {"blocks": "0 1,2", "bears": "0"}),
                (THREE_KNOW, (), {"blocks": "0,1,2", "bears": "2"}),
                (SPREAD_LATE, ("row 0 0", "send 0"), {"show": "0 0 yes doing 0 1; 1 0 yes <0.do; 2 0 yes"}),
                (PAIR, ("row 0 0", "send 0", "row 1 0", "send 1"), {"show": "0 1 yes <1.ok; 1 1 yes"}),
                (central(2), (), {"spent done": "3 3 4 4", "spent off": "1 3 2 3", "quick done": "3", "quick off": "1"})):
            shell = shell_of(agreement, *lines)
            for line, answer in looks.items():
                for _ in range(2):
                    self.assertEqual(shell.say(line), answer, line)

    def test_letters_of_several_houses_in_the_order_of_the_standing(self):
        shell = Shell()
        shell.say("make everyone 3")
        for line in ("row 2 1", "send 2", "send 2", "row 0 0", "send 0", "send 0", "row 1 0", "send 1"):
            self.assertTrue(shell.say(line).startswith("version"))
        self.assertEqual(shell.say("show"), "0 1 yes <1.yes <2.no; 1 1 yes doing 0 1 <0.yes <2.no; 2 3 off <0.yes")

    def test_a_twin_at_the_begin(self):
        """The second road may have no deeds."""
        agreement = ((("yes", "done"), ((0, (), 1, (), False),)), (("open",), ()))
        shell = shell_of(agreement)
        self.assertEqual(shell.say("twins 0"), "row 0 0 / row 0 0")
        hidden = ((("open", "yes", "done"), ((0, (), 1, (), False), (1, (), 2, (), False))), (("yes",), ()))
        self.assertEqual(shell_of(hidden).say("twins 1"), "row 0 0; row 0 1; fall 0 / fall 0")

    def test_too_many(self):
        shell = shell_of(full_reach(1))
        for line in ("road 0", "road 3", "clash", "stuck", "end 0", "bold 3", "twins 2", "bears", "blocks", "late 0",
                     "spent done", "spent off", "quick done", "quick off"):
            self.assertEqual(shell.say(line), "error TooMany", line)
        self.assertEqual(shell.say("open"), told_look(Desk(full_reach(1)), "open"))
        shell = shell_of(full_reach(0))
        self.assertEqual(shell.say("twins 0"), "none")
        self.assertEqual(shell.say("quick off"), "none")
        self.assertEqual(shell.say("bears"), "error TooMany")

    def test_falls_out_of_range_ahead_of_all_other_errors(self):
        for agreement in (COIN, UNLIKE, SPREAD, full_reach(1), CLASHING):
            shell = shell_of(agreement)
            for word in ("road", "end", "bold", "twins", "late"):
                for most in (len(agreement), len(agreement) + 1, 9, 10, 99):
                    self.assertEqual(shell.say(f"{word} {most}"), "error Unfit")
                self.assertNotEqual(shell.say(f"{word} {len(agreement) - 1}"), "what")

    def test_twice(self):
        for agreement in (COIN, AGREED, SPREAD, UNLIKE, LATE, everyone_told(4)):
            shell = shell_of(agreement)
            for edit in drawn_edits(agreement, 2, 6, back=False):
                first = [shell.say(line) for line in LOOKS]
                self.assertEqual([shell.say(line) for line in LOOKS], first)
                self.assertEqual(first, [shell.say(line) for line in reversed(LOOKS)][::-1])
                shell.say(edit_line(edit))


def spoilt(line):
    """The line spoilt at one spot, in many ways; none of these is a line."""
    found = {line.upper(), line.capitalize(), line + " 0", line + " done", line + ";", line + ".", "x" + line, line * 2,
             "\t" + line, line.replace(" ", "\t") + "\t"}
    for place in range(len(line) + 1):
        found |= {line[:place] + sign + line[place:] for sign in (" ", "\n", "A", "_", "-", "+")}
        if place < len(line) and line[place] in "0123456789":
            found |= {line[:place] + other + line[place + 1:] for other in ("00", "01", "09", "100", "000", "x", "", "1e")}
        if place < len(line) and line[place].isalpha():
            found.add(line[:place] + line[place].upper() + line[place + 1:])
    return sorted(found)


class What(unittest.TestCase):

    def shells(self):
        return Shell(), shell_of(AGREED, "row 0 0", "send 0")

    def test_values_that_are_no_strings(self):
        for value in any_values() + [Desk(COIN), Shell(), COIN, ("undo",), ["undo"], {"undo": 1}, b"undo", 0]:
            for shell in self.shells():
                self.assertEqual(shell.say(value), "what")

    def test_spoilt_lines(self):
        many = 0
        for line in EDITS + LOOKS + ("make central 2", "make three 3", "make everyone 4", "make chain 2"):
            for value in spoilt(line):
                for shell in self.shells():
                    self.assertEqual(shell.say(value), "what", value)
                    many += 1
        self.assertGreater(many, 3000)

    def test_lines_that_are_none(self):
        lines = ["", " ", "\n", "agreement", "agreement\n", "agreemen t", " agreement house open;house open", "Agreement x",
                 "agreement\nhouse open;house open", "make", "make ", "make central", "make 2", "make ring 2", "make 2 central",
                 "make central_three 2", "make central two", "make central 2 2", "make Central 2", "mend", "mend ", "mend a b",
                 "mend sevenab", "mend re1", "mend Ready", "mend r_y", "row", "row 0", "row 0 0 0", "row -1 0", "row 0 -1",
                 "row 0,0", "send", "send 0 0", "send x", "fall", "fall 0 1", "fall 00", "later", "later 0", "later 0 0 0",
                 "undo 1", "undo undo", "redo", "text 0", "show 0", "open 0", "road", "road 0 0", "road -1", "road x",
                 "clash 0", "stuck 0", "end", "end done", "end 0 1", "bold", "bold off", "bold True", "twins", "twins 0 0",
                 "bears 0", "blocks 0", "blocks 0 1", "late", "late 0 0", "late done", "spent", "spent 0", "spent yes",
                 "spent open", "spent done off", "spent Done", "quick", "quick 0", "quick never", "quick off done", "none",
                 "never", "what", "no desk", "error", "version 0", "row 100 0", "row 0 100", "send 100", "fall 000",
                 "end 100", "late 010", "make chain 100", "make chain 002", "row 0 0; send 0", "row 0 0\nsend 0", "end 01",
                 "end 1.0", "end 1 ", "central 2", "three 2", "log", "version", "do row 0 0", "make_late 0 0", "copy"]
        for line in lines:
            for shell in self.shells():
                self.assertEqual(shell.say(line), "what", line)

    def test_all_integers_of_two_figures(self):
        shell = shell_of(COIN)
        for number in range(100):
            for line in (f"row {number} 0", f"row 0 {number}", f"send {number}", f"fall {number}", f"later {number} 0",
                         f"road {number}", f"end {number}", f"make chain {number}"):
                answer = shell_of(COIN).say(line)
                self.assertNotEqual(answer, "what", line)
                self.assertEqual(Shell().say(line), "no desk" if not line.startswith("make") else answer)
        self.assertEqual(shell.say("show"), "0 0 yes; 1 0 yes")

    def test_no_desk(self):
        shell = Shell()
        for line in EDITS + LOOKS + ("road 99", "mend zzzzzz", "row 99 99", "late 50"):
            self.assertEqual(shell.say(line), "no desk")
        for line, answer in (("agreement x", "error BadText"), ("make chain 5", "error Unfit"), ("x", "what")):
            self.assertEqual(shell.say(line), answer)
            self.assertEqual(shell.say("show"), "no desk")
        self.assertEqual(shell.say("make chain 2"), "version 0")
        self.assertEqual(shell.say("show"), "0 0 open; 1 0 open")

    def test_what_changes_nothing(self):
        shell, desk = shell_of(AGREED, "row 0 0", "later 0 2"), Desk(AGREED)
        desk.do(("row", 0, 0))
        desk.make_late(0, 2)
        for line in any_values() + ["row 9 9", "row 0 1", "later 0 0", "later 0 2", "mend ask", "mend Ask", "agreement ",
                                    "agreement x", "make chain 9", "make ring 2", "end 9", "twins 7", "undo ", "und",
                                    "send 1", "fall 2"]:
            answer = shell.say(line)
            self.assertTrue(answer == "what" or answer.startswith("error "), answer)
            self.assertEqual(shell.say("show"), told_show(desk))
            self.assertEqual("agreement " + shell.say("text"), text_line(desk.agreement))
        self.assertEqual([shell.say(line) for line in ("send 0", "undo", "undo", "undo", "undo")],
                         ["version 3", "version 2", "version 1", "version 0", "error NothingToUndo"])


class Apart(unittest.TestCase):

    def test_two_shells(self):
        one, other, alone = Shell(), Shell(), Shell()
        lines = ["make central 3", "row 0 0", "send 0", "later 1 0", "fall 2", "undo", "bears", "show", "text", "end 1"]
        others = [text_line(COIN), "row 0 1", "fall 1", "undo", "undo", "mend go", "bears", "show", "text", "end 1"]
        expected = [alone.say(line) for line in lines]
        told = [(one.say(line), other.say(own)) for line, own in zip(lines, others, strict=True)]
        self.assertEqual([answer for answer, _ in told], expected)
        alone = Shell()
        self.assertEqual([answer for _, answer in told], [alone.say(own) for own in others])
        self.assertEqual(Shell().say("show"), "no desk")

    def test_by_name(self):
        shell = Shell()
        self.assertEqual(shell.say(line="make chain 2"), "version 0")
        self.assertTrue(same(shell.say(line="show"), "0 0 open; 1 0 open"))


if __name__ == "__main__":
    unittest.main()
