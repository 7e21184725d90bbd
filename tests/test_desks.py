import unittest

from leftstanding.books import agreement_error
from leftstanding.desks import Desk, desk_behind
from leftstanding.errors import LeftError
from leftstanding.makers import central, central_three, chain
from leftstanding.shells import Shell
from leftstanding.standings import begin, standing_error
from drawn import Draw, drawn_agreements, small_ones
from model import Run, all_standings, first_twins, kinds_in, seen, told_table
from samples import (
    AGREED, CLASHING, COIN, HASTY, LONE, PAIR, READY, SPREAD, SPREAD_LATE, TRIO, UNLIKE, WILLING, any_values, changed,
    everyone, full_reach, longest, outcome, same,
)

UNFIT = ("raises", "Unfit", {})
TOO_MANY = ("raises", "TooMany", {"limit": 4000})
TOO_MANY_EDITS = ("raises", "TooManyEdits", {})
NOTHING_TO_UNDO = ("raises", "NothingToUndo", {})
SMALL = (COIN, AGREED, PAIR, SPREAD, SPREAD_LATE, READY, TRIO, HASTY, UNLIKE, central(2), chain(3))
SAMPLES = SMALL + tuple(own for own in small_ones(60) if len(all_standings(own, len(own) - 1)) <= 120)


def told(call, *values, **names):
    return outcome(call, values, names)


def state(desk):
    return (desk.agreement, desk.standing, desk.version, desk.log)


def is_late(edit):
    return edit[0] == "late"


class Sketch:
    """A desk worked out once more: from its edits alone, all done anew each time."""

    def __init__(self, agreement):
        self.first = agreement
        self.edits = []

    def state(self):
        agreement, standing = self.first, Run(self.first).standing()
        for edit in self.edits:
            if is_late(edit):
                agreement = changed(agreement, (edit[1], 1, edit[2], 4), True)
            else:
                run = Run(agreement, standing)
                assert run.can(edit)
                run.do(edit)
                standing = run.standing()
        return (agreement, standing, len(self.edits), tuple(self.edits))

    def ways(self):
        """All edits that can be done now."""
        agreement, standing, _, _ = self.state()
        rows = [(house, k, row) for house, (_, rows) in enumerate(agreement) for k, row in enumerate(rows)]
        lates = [("late", house, k) for house, k, row in rows
                 if not row[4] and not (standing[1][house] and standing[1][house][0] == k)]
        return Run(agreement, standing).deeds(), lates


def edit_on(desk, edit):
    return desk.make_late(edit[1], edit[2]) if is_late(edit) else desk.do(edit)


def drawn_edits(agreement, seed, many, back=True):
    """Edits that can be done one behind another, "undo" among them; falls and rows made late are few."""
    draw, sketch, found = Draw(seed), Sketch(agreement), []
    for _ in range(many):
        deeds, lates = sketch.ways()
        falls = [deed for deed in deeds if deed[0] == "fall"]
        others = [deed for deed in deeds if deed[0] != "fall"]
        turn = draw.below(12)
        if turn == 0 and back and sketch.edits:
            sketch.edits.pop()
            found.append("undo")
            continue
        ways = lates if turn in (1, 2) and lates else falls if turn == 3 and falls else others or falls or lates
        if not ways:
            break
        sketch.edits.append(draw.pick(ways))
        found.append(sketch.edits[-1])
    return found


def desk_of(agreement, *edits):
    desk = Desk(agreement)
    for edit in edits:
        edit_on(desk, edit)
    return desk


class Begin(unittest.TestCase):

    def test_first(self):
        for agreement in SAMPLES + tuple(drawn_agreements(60)) + (everyone(4), longest(True)):
            for desk in (Desk(agreement), Desk(agreement=agreement)):
                self.assertTrue(same(state(desk), (agreement, begin(agreement), 0, ())))

    def test_bad_agreements(self):
        values = any_values() + [COIN[:1], list(COIN), COIN * 3, Desk(COIN), Shell(), [Desk(COIN)], (Desk(COIN), COIN[1])]
        values += [(book, COIN[1]) for book in (None, (("yes",),), (("yes",), []), ((), ()), (("done",), ()))]
        values += [changed(COIN, (1, 1, 0, 2), True), changed(COIN, (0, 1, 1, 0), 2), changed(COIN, (1, 0, 0), "off")]
        for value in values:
            error = agreement_error(value)
            self.assertIsNotNone(error)
            self.assertEqual(told(Desk, value), ("raises", "BadAgreement", {"error": error}))
            for log in (None, (), (("row", 0, 0),)):
                self.assertEqual(told(desk_behind, value, log), ("raises", "BadAgreement", {"error": error}))

    def test_only_read(self):
        desk = desk_of(COIN, ("row", 0, 0))
        before = state(desk)
        for name in ("agreement", "standing", "version", "log"):
            for value in (AGREED, (), 7, None):
                with self.assertRaises(AttributeError):
                    setattr(desk, name, value)
            with self.assertRaises(AttributeError):
                delattr(desk, name)
        self.assertEqual(state(desk), before)


class Edits(unittest.TestCase):

    def test_drawn_edits(self):
        for seed, agreement in enumerate(SAMPLES + tuple(drawn_agreements(90)) + (central(3), everyone(4), WILLING)):
            sketch, desk = Sketch(agreement), Desk(agreement)
            for edit in drawn_edits(agreement, seed, 30):
                if edit == "undo":
                    sketch.edits.pop()
                    found = told(desk.undo)
                else:
                    sketch.edits.append(edit)
                    found = told(edit_on, desk, edit)
                self.assertTrue(same(found, ("returns", len(sketch.edits))))
                self.assertTrue(same(state(desk), sketch.state()))
                self.assertIsNone(agreement_error(desk.agreement))
                self.assertIsNone(standing_error(desk.agreement, desk.standing))
                self.check_looks(desk)
            while sketch.edits:
                sketch.edits.pop()
                self.assertEqual(desk.undo(), len(sketch.edits))
                self.assertTrue(same(state(desk), sketch.state()))
            self.assertEqual(told(desk.undo), NOTHING_TO_UNDO)

    def check_looks(self, desk):
        before = state(desk)
        run = Run(desk.agreement, desk.standing)
        self.assertTrue(same(desk.open_ones(), tuple(run.deeds())))
        found = told(desk.view)
        if len(desk.standing[3]) == len(desk.agreement):
            self.assertEqual(found, UNFIT)
        else:
            self.assertTrue(same(found, ("returns", seen(desk.standing))))
        self.assertEqual(state(desk), before)

    def test_by_names(self):
        desk = Desk(AGREED)
        self.assertEqual(desk.do(deed=("row", 0, 0)), 1)
        self.assertEqual(desk.make_late(k=2, house=0), 2)
        self.assertEqual(desk.end(bold=True, most=1), "off")
        self.assertEqual(desk_behind(log=desk.log, agreement=AGREED), desk)

    def test_the_log_keeps_deeds_as_they_were_handed_in(self):
        deed = tuple(["row", 0, 0])
        desk = desk_of(COIN, deed, ("late", 1, 0))
        self.assertIs(desk.log[0], deed)
        self.assertEqual(desk.log, (("row", 0, 0), ("late", 1, 0)))

    def test_a_log_that_was_read_stays(self):
        desk = desk_of(COIN, ("row", 0, 0))
        log, standing, agreement = desk.log, desk.standing, desk.agreement
        desk.do(("send", 0))
        desk.make_late(1, 1)
        self.assertEqual((log, standing, agreement), ((("row", 0, 0),), ((1, 0), ((0, 0), ()), (), ()), COIN))


class Refusals(unittest.TestCase):

    def test_refused_with_the_very_value(self):
        for agreement in (COIN, AGREED, TRIO):
            for edits in ((), (("row", 0, 0),), (("fall", 0),), (("row", 0, 0), ("send", 0), ("late", 1, 1))):
                desk = desk_of(agreement, *edits)
                before, deeds = state(desk), desk.open_ones()
                values = any_values() + [desk, [desk], (desk, 0), ("row", desk, 0), agreement, desk.standing, deeds]
                values += [list(deed) for deed in deeds] + [deed + (0,) for deed in deeds]
                values += [changed(deed, (1,), bool(deed[1])) for deed in deeds]
                values += [(word, house) for word in ("send", "fall", "row", "late", "undo") for house in range(-1, 5)]
                values += [("row", house, k) for house in range(-1, 5) for k in (-1, 0, 1, 2, 3, True, None, 12)]
                values += [("late", 0, 0), ("late", 1, 1), ("late", 0, 5)]
                for value in values:
                    if not any(same(value, deed) for deed in deeds):
                        found = told(desk.do, value)
                        self.assertEqual(found[:2], ("raises", "Refused"), value)
                        self.assertEqual(list(found[2]), ["deed"])
                        self.assertIs(found[2]["deed"], value)
                        self.assertEqual(state(desk), before)

    def test_unfit_rows(self):
        desk = desk_of(AGREED, ("row", 0, 0), ("late", 1, 3))
        before = state(desk)
        others = [None, True, False, -1, 4, 9, 10 ** 399, "0", "", (), (0,), [0], {}, {0: 0}, desk]
        for house in others + [2]:
            for k in (0, 1) + tuple(others):
                self.assertEqual(told(desk.make_late, house, k), UNFIT)
        for house in (0, 1):
            for k in others:
                self.assertEqual(told(desk.make_late, house, k), UNFIT)
        # The row 0 of the house 0 is being done, and the row 3 of the house 1 is late already.
        self.assertEqual(told(desk.make_late, 0, 0), UNFIT)
        self.assertEqual(told(desk.make_late, 1, 3), UNFIT)
        self.assertEqual(state(desk), before)
        for house, k in ((0, 1), (0, 2), (0, 3), (1, 0), (1, 1), (1, 2)):
            other = desk.copy()
            self.assertEqual(told(other.make_late, house, k), ("returns", 3))
            self.assertEqual(told(other.make_late, house, k), UNFIT)
            self.assertEqual(other.standing, desk.standing)
            self.assertEqual(other.agreement, changed(desk.agreement, (house, 1, k, 4), True))

    def test_rows_that_are_being_done_now_and_no_other(self):
        for agreement in SMALL:
            for seed in range(4):
                desk = Desk(agreement)
                for edit in drawn_edits(agreement, seed, 12, back=False):
                    edit_on(desk, edit)
                    for house, (_, rows) in enumerate(desk.agreement):
                        for k, row in enumerate(rows):
                            doing = desk.standing[1][house]
                            unfit = row[4] or (doing != () and doing[0] == k)
                            found = told(desk.copy().make_late, house, k)
                            self.assertEqual(found, UNFIT if unfit else ("returns", desk.version + 1))

    def test_when_the_row_is_done_it_can_be_made_late(self):
        desk = desk_of(COIN, ("row", 0, 0))
        self.assertEqual(told(desk.make_late, 0, 0), UNFIT)
        desk.do(("send", 0))
        standing = desk.standing
        self.assertEqual(desk.make_late(0, 0), 3)
        self.assertEqual(desk.standing, standing)
        # Also when the house fell amid it.
        desk = desk_of(COIN, ("row", 0, 0), ("fall", 0))
        self.assertEqual(desk.make_late(0, 0), 3)
        self.assertEqual(desk.standing, ((1, 0), ((), ()), (), (0,)))

    def test_a_house_that_does_a_late_row_later(self):
        desk = desk_of(COIN, ("late", 0, 0), ("row", 0, 0))
        self.assertEqual(desk.standing, ((0, 0), ((0, 0), ()), (), ()))
        desk.do(("send", 0))
        self.assertEqual(desk.standing, ((1, 0), ((), ()), ((0, 1, "do"),), ()))


class ManyEdits(unittest.TestCase):

    def full(self):
        """A desk on which sixty edits stand, and further ones could be done."""
        desk, draw = Desk(longest(False)), Draw(3)
        for place in range(60):
            if place % 10 == 9:
                house, k = next((house, k) for house in range(4) for k in range(7)
                                if not desk.agreement[house][1][k][4] and desk.standing[1][house][:1] != (k,))
                self.assertEqual(desk.make_late(house, k), place + 1)
            else:
                deeds = [deed for deed in desk.open_ones() if deed[0] != "fall"]
                self.assertEqual(desk.do(draw.pick(deeds)), place + 1)
        return desk

    def test_sixty(self):
        desk = self.full()
        before = state(desk)
        self.assertEqual((desk.version, len(desk.log)), (60, 60))
        fine = [deed for deed in desk.open_ones()]
        for deed in fine:
            self.assertEqual(told(desk.do, deed), TOO_MANY_EDITS)
        self.assertEqual(told(desk.make_late, 3, 6), TOO_MANY_EDITS)
        for deed in (("row", 0, 9), None, (), ("send", 4), ["fall", 0]):
            found = told(desk.do, deed)
            self.assertEqual(found[:2], ("raises", "Refused"))
            self.assertIs(found[2]["deed"], deed)
        house = next(house for house in range(4) if desk.standing[1][house])
        for own, k in ((0, 7), (4, 0), (True, 0), (house, desk.standing[1][house][0]), (None, None)):
            self.assertEqual(told(desk.make_late, own, k), UNFIT)
        late = next(edit for edit in desk.log if is_late(edit))
        self.assertEqual(told(desk.make_late, late[1], late[2]), UNFIT)
        self.assertEqual(state(desk), before)

    def test_one_taken_back_and_one_more(self):
        desk = self.full()
        for more in (("fall", 1), ("fall", 2)):
            self.assertEqual(desk.undo(), 59)
            self.assertEqual(desk.do(more), 60)
            self.assertEqual(told(desk.do, ("fall", 0)), TOO_MANY_EDITS)
            self.assertEqual(told(desk.make_late, 3, 6), TOO_MANY_EDITS)
        self.assertEqual(desk.undo(), 59)
        self.assertEqual(desk.make_late(3, 6), 60)
        self.assertEqual(told(desk.do, ("fall", 0)), TOO_MANY_EDITS)

    def test_undo_down_to_none(self):
        desk = self.full()
        sketch = Sketch(longest(False))
        sketch.edits = list(desk.log)
        for many in range(59, -1, -1):
            sketch.edits.pop()
            self.assertEqual(told(desk.undo), ("returns", many))
            self.assertEqual(state(desk), sketch.state())
        for _ in range(2):
            self.assertEqual(told(desk.undo), NOTHING_TO_UNDO)
            self.assertEqual(state(desk), (longest(False), begin(longest(False)), 0, ()))
        # Those that were taken back do not count: sixty more can be done.
        self.assertEqual(desk_behind(longest(False), self.full().log).version, 60)
        for place in range(60):
            self.assertEqual(desk.do([deed for deed in desk.open_ones() if deed[0] != "fall"][0]), place + 1)
        self.assertEqual(told(desk.do, ("fall", 0)), TOO_MANY_EDITS)


def told_end(desk, most, bold):
    """What the document tells of the end, for a good most and bold, where not too many standings come."""
    standing, agreement = desk.standing, desk.agreement
    if first_twins(agreement, most) or standing not in all_standings(agreement, most):
        return UNFIT
    return ("returns", dict(told_table(agreement, most, bold))[seen(standing)])


class Ends(unittest.TestCase):

    def test_drawn_edits(self):
        found = {}
        for seed, agreement in enumerate(SAMPLES):
            desk, lates = Desk(agreement), 0
            for edit in drawn_edits(agreement, seed, 10):
                if edit == "undo":
                    desk.undo()
                    continue
                edit_on(desk, edit)
                lates += is_late(edit)
                before = state(desk)
                for most in range(len(agreement)):
                    for bold in (False, True):
                        expected = told_end(desk, most, bold)
                        self.assertEqual(told(desk.end, most, bold), expected)
                        found[expected[:2]] = found.get(expected[:2], 0) + 1
                self.assertEqual(state(desk), before)
        self.assertGreater(min(found.values()), 100)
        self.assertEqual(len(found), 3)

    def test_unfit_arguments_ahead_of_all(self):
        others = [None, True, False, -1, 4, 9, 10 ** 399, "0", "", (), (0,), [0], {}, {0: 0}]
        for agreement in (COIN, UNLIKE, SPREAD, full_reach(1), everyone(4), CLASHING):
            desk = Desk(agreement)
            for most in others + [len(agreement), desk]:
                for bold in (True, False, None):
                    self.assertEqual(told(desk.end, most, bold), UNFIT)
            for bold in (None, 0, 1, "", "True", (), [True], {}, desk):
                for most in (0, 1, len(agreement) - 1):
                    self.assertEqual(told(desk.end, most, bold), UNFIT)

    def test_too_many_ahead_of_unfit(self):
        for agreement in (full_reach(1), everyone(4), CLASHING, longest(False)):
            desk = Desk(agreement)
            for deed in (None, ("fall", 0), ("fall", 1), ("fall", 2), ("fall", 3)):
                if deed:
                    desk.do(deed)
                for most in (0, 3):
                    self.assertEqual(told(desk.end, most, True), TOO_MANY)
        desk = Desk(full_reach(0))
        self.assertEqual(told(desk.end, 0, False), ("returns", "off"))
        self.assertEqual(told(desk.end, 1, False), TOO_MANY)
        desk.do(("fall", 0))
        self.assertEqual(told(desk.end, 0, False), UNFIT)
        self.assertEqual(told(desk.end, 1, False), TOO_MANY)

    def test_nobody_left(self):
        for agreement in (COIN, AGREED, SPREAD_LATE, (LONE,) * 3):
            desk = Desk(agreement)
            for house in range(len(agreement)):
                desk.do(("fall", house))
            self.assertEqual(told(desk.view), UNFIT)
            self.assertEqual(desk.open_ones(), ())
            for most in range(len(agreement)):
                self.assertEqual(told(desk.end, most, True), UNFIT)

    def test_twins(self):
        for agreement, most in ((COIN, 1), (UNLIKE, 0), (SPREAD, 2), (HASTY, 1)):
            for bold in (False, True):
                self.assertEqual(told(Desk(agreement).end, most, bold), UNFIT)

    def test_a_standing_that_does_not_come(self):
        desk = desk_of(AGREED, ("row", 0, 0), ("fall", 0))
        self.assertEqual(told(desk.end, 0, False), UNFIT)
        self.assertEqual(told(desk.end, 1, False), ("returns", "off"))
        # Behind a row made late amid: those left see what they might see, but this standing comes no more.
        desk = desk_of(COIN, ("row", 0, 0), ("fall", 0), ("late", 0, 0))
        self.assertEqual(first_twins(desk.agreement, 1), None)
        self.assertIn(seen(desk.standing), dict(told_table(desk.agreement, 1, True)))
        for bold in (False, True):
            self.assertEqual(told(desk.end, 1, bold), UNFIT)
        desk = desk_of(COIN, ("row", 0, 0), ("send", 0), ("late", 0, 0), ("late", 0, 1))
        self.assertEqual(told(desk.end, 1, True), ("returns", "done"))

    def test_what_holds(self):
        """[L4]"""
        for seed, agreement in enumerate(SAMPLES):
            desk, late = Desk(agreement), False
            for edit in drawn_edits(agreement, seed, 12, back=False):
                edit_on(desk, edit)
                late = late or is_late(edit)
                kinds = kinds_in(desk.agreement, desk.standing)
                for most in range(len(agreement)):
                    found = told(desk.end, most, False)
                    if found[0] == "returns" and "done" in kinds:
                        self.assertEqual(found[1], "done")
                    if found[0] == "returns" and set(kinds) & {"off", "open"}:
                        self.assertEqual(found[1], "off")
                    if not late and most >= len(desk.standing[3]) and first_twins(agreement, most) is None:
                        self.assertEqual(found[0], "returns")


class Copies(unittest.TestCase):

    def test_apart(self):
        for seed, agreement in enumerate(SAMPLES):
            desk = Desk(agreement)
            edits = [edit for edit in drawn_edits(agreement, seed, 8, back=False)]
            for edit in edits[:4]:
                edit_on(desk, edit)
            other = desk.copy()
            self.assertEqual(state(other), state(desk))
            self.assertIsNot(other, desk)
            kept = state(desk)
            for edit in edits[4:]:
                edit_on(other, edit)
            self.assertEqual(state(desk), kept)
            there = state(other)
            while desk.version:
                desk.undo()
            self.assertEqual(state(other), there)
            while other.version:
                other.undo()
            self.assertEqual(state(other), state(desk))
            self.assertEqual(told(other.undo), NOTHING_TO_UNDO)

    def test_undo_there_too(self):
        desk = desk_of(AGREED, ("row", 0, 0), ("late", 0, 2), ("send", 0))
        other = desk.copy()
        self.assertEqual([other.undo(), other.undo(), other.undo()], [2, 1, 0])
        self.assertEqual(state(other), (AGREED, begin(AGREED), 0, ()))
        self.assertEqual(desk.version, 3)
        self.assertEqual(other.do(("fall", 1)), 1)
        self.assertEqual(desk.standing[3], ())

    def test_sixty_there_too(self):
        desk = ManyEdits().full()
        other = desk.copy()
        self.assertEqual(told(other.do, ("fall", 0)), TOO_MANY_EDITS)
        other.undo()
        self.assertEqual(other.do(("fall", 0)), 60)
        self.assertEqual(told(desk.do, ("fall", 0)), TOO_MANY_EDITS)


class Equal(unittest.TestCase):

    def check(self, one, other, expected):
        self.assertIs(one == other, expected)
        self.assertIs(other == one, expected)
        self.assertIs(one != other, not expected)
        self.assertIs(other != one, not expected)

    def test_by_other_edits(self):
        one = desk_of(AGREED, ("row", 0, 0), ("fall", 1), ("late", 0, 2), ("send", 0))
        other = desk_of(AGREED, ("late", 0, 2), ("fall", 1), ("row", 0, 0), ("fall", 0))
        self.check(one, other, False)
        other.undo()
        other.do(("send", 0))
        self.check(one, other, True)
        self.assertNotEqual(one.log, other.log)
        self.check(desk_of(changed(AGREED, (0, 1, 2, 4), True)), desk_of(AGREED, ("late", 0, 2)), True)
        self.check(one, one, True)
        self.check(one, one.copy(), True)

    def test_unlike(self):
        self.check(Desk(COIN), Desk(AGREED), False)
        self.check(Desk(COIN), desk_of(COIN, ("late", 1, 0)), False)
        self.check(Desk(COIN), desk_of(COIN, ("fall", 0)), False)
        self.check(Desk((COIN[0], (COIN[1][0], ()))), Desk(COIN), False)

    def test_other_values(self):
        desk = desk_of(COIN, ("row", 0, 0))

        class Wide:
            def __eq__(self, other):
                return True

        for value in any_values() + [COIN, desk.standing, desk.log, (desk,), [desk], Shell(), (COIN, desk.standing)]:
            self.check(desk, value, False)
        self.assertIs(desk == Wide(), False)
        self.assertIs(desk != Wide(), True)


class Behind(unittest.TestCase):

    def test_logs_there_and_back(self):
        for seed, agreement in enumerate(SAMPLES + tuple(drawn_agreements(60)) + (central_three(3), everyone(4))):
            desk = Desk(agreement)
            for edit in drawn_edits(agreement, seed, 25):
                if edit == "undo":
                    desk.undo()
                else:
                    edit_on(desk, edit)
            found = told(desk_behind, agreement, desk.log)
            self.assertEqual(found[0], "returns")
            other = found[1]
            self.assertIsInstance(other, Desk)
            self.assertTrue(other == desk)
            self.assertTrue(same(state(other), state(desk)))
            while desk.version:
                self.assertEqual(other.undo(), desk.undo())
                self.assertTrue(same(state(other), state(desk)))
            self.assertEqual(told(other.undo), NOTHING_TO_UNDO)

    def test_no_tuple(self):
        desk = desk_of(COIN, ("row", 0, 0))
        values = [value for value in any_values() if value.__class__ is not tuple]
        for value in values + [list(desk.log), "none", desk, Shell(), {0: ("row", 0, 0)}, [], "row 0 0"]:
            self.assertEqual(told(desk_behind, COIN, value), ("raises", "BadLog", {"place": -1}))
        self.assertTrue(desk_behind(COIN, ()) == Desk(COIN))

    def test_places(self):
        good = (("row", 0, 0), ("late", 1, 1), ("send", 0), ("late", 0, 2), ("row", 1, 0), ("send", 1), ("fall", 1))
        self.assertEqual(desk_behind(AGREED, good).log, good)
        wrongs = any_values() + [
            ("row", 1, 3), ("row", 0, 4), ("fall", 2), ["fall", 0], ("fall", True), ("late", 0), ("late",), "late",
            ("late", 2, 0), ("late", 0, 4), ("late", True, 1), ("late", 1, True), ("late", None, None), ("late", -1, 0),
            ["late", 1, 0], ("late", 1, 0, 0), ("Late", 1, 0), ("late ", 1, 0), (("late",), 1, 0), (["late"], 1, 0),
            ({}, 1, 0), (None, 1, 0), "undo", ("undo",), Desk(AGREED), (Desk(AGREED), 0, 0), ("late", Desk(COIN), 0),
            ("late", (), []), ("late", 0, "0"),
        ]
        for place in range(len(good) + 1):
            for wrong in wrongs:
                log = good[:place] + (wrong,) + good[place:]
                self.assertEqual(told(desk_behind, AGREED, log), ("raises", "BadLog", {"place": place}), wrong)
                self.assertEqual(told(desk_behind, AGREED, log + (None,))[2], {"place": place})

    def test_errors_of_each_sort(self):
        # A row that is late already, one that is being done, a deed that is done twice.
        for log, place in (
                ((("late", 0, 0), ("late", 0, 0)), 1), ((("row", 0, 0), ("late", 0, 0)), 1),
                ((("row", 0, 0), ("row", 0, 0)), 1), ((("fall", 0), ("late", 0, 1), ("row", 0, 0)), 2)):
            self.assertEqual(told(desk_behind, COIN, log), ("raises", "BadLog", {"place": place}))
        log = ManyEdits().full().log
        self.assertEqual(desk_behind(longest(False), log).log, log)
        for more in (("fall", 0), ("late", 3, 6), None, ("row", 9, 9), ("late", 9, 9)):
            self.assertEqual(told(desk_behind, longest(False), log + (more,)), ("raises", "BadLog", {"place": 60}))
            self.assertEqual(told(desk_behind, longest(False), log[:20] + (None,) + log[20:] + (more,)),
                             ("raises", "BadLog", {"place": 20}))
        self.assertEqual(told(desk_behind, COIN, (("row", 0, 0),) * 4000), ("raises", "BadLog", {"place": 1}))

    def test_it_is_a_left_error_of_its_own(self):
        try:
            desk_behind(COIN, (None,))
        except LeftError as error:
            self.assertEqual(vars(error), {"place": 0})
            self.assertIsNone(error.__cause__)

    def test_what_was_handed_in_stays(self):
        log = [("row", 0, 0), ("late", 1, 0)]
        handed = tuple(log)
        desk = desk_behind(COIN, handed)
        desk.do(("send", 0))
        desk.undo()
        desk.undo()
        self.assertEqual(handed, tuple(log))


if __name__ == "__main__":
    unittest.main()
