import unittest

from leftstanding.endings import begun, ended_after, ends_of, open_endings
from leftstanding.moving import led
from leftstanding.reaches import reach
from leftstanding.standings import begin
from drawn import Draw, small_ones
from model import Run, all_standings, first_twins, kinds_in, lets_done, needs_done, seen, told_table
from samples import (
    AGREED, CLASHING, COIN, HASTY, LONE, PAIR, READY, SPREAD, SPREAD_LATE, UNLIKE, WILLING, any_values, at, central,
    changed, everyone, full_reach, outcome, paths, raised, returned, same,
)

TOO_MANY = ("TooMany", {"limit": 4000})
SAMPLES = small_ones(90)
TOLD = led(AGREED, (("row", 0, 0), ("send", 0), ("row", 1, 0), ("send", 1), ("row", 0, 2)))


def without_twins(samples, limit=4000):
    return [(own, most) for own in samples for most in range(len(own))
            if first_twins(own, most) is None and len(all_standings(own, most)) <= limit]


def left_in(ending):
    return [house for house in range(len(ending[1])) if house not in ending[0][3]]


def told_begun(agreement, standing):
    ends = tuple(kind if kind in ("done", "off") else "" for kind in kinds_in(agreement, standing))
    return (standing, ends, ends)


def told_deeds(most, ending):
    """What the document tells of which deeds can be done, worked out once more: all deeds are tried."""
    (_, _, _, fallen), bound, ended = ending
    left = left_in(ending)
    found = []
    for word in ("fall", "end", "bind"):
        for house in left:
            can = {
                "bind": bound[house] == "",
                "end": ended[house] == "" and "" not in [bound[other] for other in left],
                "fall": len(fallen) + 1 <= most,
            }
            found += [(word, house)] if can[word] else []
    return sorted(found)


def told_behind(agreement, ends, ending, deed):
    """The ending behind the deed, ends being the pairs of the table."""
    standing, bound, ended = ending[0], list(ending[1]), list(ending[2])
    word, house = deed
    if word == "fall":
        run = Run(agreement, standing)
        run.do(deed)
        standing = run.standing()
    if word == "end":
        ended[house] = bound[house]
    if word == "bind":
        others = {bound[other] for other in left_in(ending)} - {""}
        assert len(others) < 2, ending
        bound[house] = others.pop() if others else ends[seen(standing)]
    return (standing, tuple(bound), tuple(ended))


def told_ends(agreement, most, ends, ending):
    """All endings that come of this one, in waves."""
    found = [ending]
    for one in found:
        for deed in told_deeds(most, one):
            behind = told_behind(agreement, ends, one, deed)
            if behind not in found:
                found.append(behind)
    return tuple(found)


class Begun(unittest.TestCase):

    def test_standings_that_come(self):
        for agreement in SAMPLES:
            for standing in reach(agreement, len(agreement) - 1)[::4]:
                self.assertTrue(same(returned(begun, agreement, standing), told_begun(agreement, standing)))

    def test_with_twins_and_with_too_many_standings(self):
        self.assertEqual(returned(begun, UNLIKE, ((1, 1), ((), ()), (), ())), (
            ((1, 1), ((), ()), (), ()), ("done", "off"), ("done", "off")))
        self.assertEqual(returned(begun, HASTY, ((2, 0), ((), ()), ((0, 1, "ask"),), (0,)))[1:], (("done", ""),) * 2)
        for agreement in (full_reach(1), (LONE,) * 4, everyone(4)):
            self.assertEqual(raised(reach, agreement, 0), TOO_MANY)
            self.assertEqual(returned(begun, agreement, begin(agreement)), (begin(agreement), ("",) * 4, ("",) * 4))
        standing = ((3, 0, 1, 0), ((1, 2), (), (), ()), ((0, 1, "no"), (0, 2, "no")), (2,))
        self.assertEqual(returned(begun, everyone(4), standing), (standing, ("off", "", "", ""), ("off", "", "", "")))

    def test_some(self):
        self.assertEqual(returned(begun, AGREED, TOLD), (TOLD, ("done", ""), ("done", "")))
        fallen = TOLD[:1] + (((), ()),) + TOLD[2:3] + ((0,),)
        self.assertEqual(returned(begun, AGREED, fallen), (fallen, ("done", ""), ("done", "")))
        self.assertEqual(returned(begun, COIN, begin(COIN)), (begin(COIN), ("", ""), ("", "")))


class DrawnOrders(unittest.TestCase):
    """Binding, ending and falling in drawn orders."""

    def test_drawn_orders(self):
        for agreement, most in without_twins(SAMPLES, 60):
            draw = Draw(len(repr(agreement)) + most)
            standings = list(all_standings(agreement, most))
            for bold in (False, True):
                ends = dict(told_table(agreement, most, bold))
                for standing in standings[:1] + [draw.pick(standings) for _ in range(2)]:
                    ending = begun(agreement, standing)
                    while told_deeds(most, ending):
                        self.check_deeds(agreement, most, bold, ending, ends)
                        deed = draw.pick(told_deeds(most, ending))
                        ending = ended_after(agreement, most, bold, ending, deed)
                    self.check_deeds(agreement, most, bold, ending, ends)
                    self.assertTrue(all(ending[2][house] for house in left_in(ending)))

    def check_deeds(self, agreement, most, bold, ending, ends):
        deeds = told_deeds(most, ending)
        self.assertTrue(same(outcome(open_endings, (agreement, most, bold, ending), {}), ("returns", tuple(deeds))))
        for word in ("bind", "end", "fall"):
            for house in range(len(agreement)):
                deed = (word, house)
                found = outcome(ended_after, (agreement, most, bold, ending, deed), {})
                if deed in deeds:
                    self.assertTrue(same(found, ("returns", told_behind(agreement, ends, ending, deed))))
                else:
                    self.assertEqual(found, ("raises", "Refused", {"deed": deed}))

    def test_by_names_and_again(self):
        for agreement, most in ((COIN, 0), (AGREED, 1), (PAIR, 0), (SPREAD_LATE, 1), (READY, 1)):
            for bold in (False, True):
                ending = begun(agreement, begin(agreement))
                while open_endings(agreement, most, bold, ending):
                    for deed in returned(open_endings, agreement, most, bold, ending):
                        returned(ended_after, agreement, most, bold, ending, deed)
                    ending = ended_after(agreement, most, bold, ending, deed)

    def test_table_and_copy_differ(self):
        """A house copies one left that is bound, though the table tells another end of what is seen by now."""
        found = {"copies": 0, "takes": 0}
        for agreement, most in ((central(3), 1), (AGREED, 1), (everyone(2), 1), (SPREAD_LATE, 1)):
            for bold in (False, True):
                ends = dict(told_table(agreement, most, bold))
                for standing in list(all_standings(agreement, most))[::3]:
                    for ending in told_ends(agreement, most, ends, told_begun(agreement, standing)):
                        binds = [deed for deed in told_deeds(most, ending) if deed[0] == "bind"]
                        bound = {ending[1][house] for house in left_in(ending)} - {""}
                        once = {end for end in ending[1] if end} - {ends[seen(ending[0])]}
                        if binds and once and sum(found.values()) < 60:
                            kind = "copies" if bound else "takes"
                            behind = ended_after(agreement, most, bold, ending, binds[0])
                            self.assertEqual(behind, told_behind(agreement, ends, ending, binds[0]))
                            expected = bound.pop() if bound else ends[seen(ending[0])]
                            self.assertEqual(behind[1][binds[0][1]], expected)
                            found[kind] += 1
        self.assertGreater(found["copies"], 3)
        self.assertGreater(found["takes"], 3)


class EndsOf(unittest.TestCase):

    def check(self, agreement, most, bold, ending):
        expected = told_ends(agreement, most, dict(told_table(agreement, most, bold)), ending)
        found = returned(ends_of, agreement, most, bold, ending)
        self.assertTrue(same(found, expected))
        self.assertEqual(len(set(found)), len(found))

    def test_order(self):
        for agreement, most in without_twins(SAMPLES, 60):
            standings = list(all_standings(agreement, most))
            for bold in (False, True):
                for standing in standings[::max(1, len(standings) // 4)]:
                    self.check(agreement, most, bold, begun(agreement, standing))

    def test_of_endings_amid(self):
        for agreement, most in ((AGREED, 1), (SPREAD_LATE, 1), (WILLING, 3)):
            ends, start = dict(told_table(agreement, most, True)), begun(agreement, begin(agreement))
            for ending in told_ends(agreement, most, ends, start):
                self.check(agreement, most, True, ending)

    def test_nothing_left_to_do(self):
        ending = (((1, 1), ((), ()), (), ()), ("done", "done"), ("done", "done"))
        self.assertEqual(returned(ends_of, COIN, 0, True, ending), (ending,))
        self.assertEqual(returned(open_endings, COIN, 0, True, ending), ())

    def test_larger(self):
        self.check(central(3), 1, True, begun(central(3), begin(central(3))))
        self.check(central(4), 1, False, begun(central(4), begin(central(4))))


class Errors(unittest.TestCase):

    def test_refused_for_any_value(self):
        for agreement, most, standing in ((AGREED, 1, TOLD), (AGREED, 0, TOLD), (COIN, 0, begin(COIN)),
                                          (SPREAD_LATE, 1, begin(SPREAD_LATE))):
            ends = dict(told_table(agreement, most, True))
            for ending in told_ends(agreement, most, ends, begun(agreement, standing))[:6]:
                deeds = told_deeds(most, ending)
                values = any_values() + [agreement, ending, ending[0], tuple(deeds), deeds, "bind 0", "fall"]
                values += [(word, house) for word in ("bind", "end", "fall", "send", "row", "Bind", "", None, 0)
                           for house in (-1, 0, 1, 2, 3, 4, True, False, None, "0", "", (), [], {}, (0,), 10 ** 399)]
                values += [("row", 0, 0), ("bind", 0, 1)]
                for deed in deeds:
                    values += [list(deed), deed + (0,), deed[:1], deed[::-1], (deed,)]
                    values += [changed(deed, path, value) for path in paths(deed)[1:] for value in any_values()]
                    values += [changed(deed, (1,), bool(deed[1])), changed(deed, (0,), at(deed, (0,)).upper())]
                for value in values:
                    if not any(same(value, deed) for deed in deeds):
                        kind, name, fields = outcome(ended_after, (agreement, most, True, ending, value), {})
                        self.assertEqual((kind, name, list(fields)), ("raises", "Refused", ["deed"]))
                        self.assertIs(fields["deed"], value)

    def test_refused_of_some(self):
        one = begun(AGREED, TOLD)
        for deed in (("bind", 0), ("end", 0), ("end", 1), ("fall", 2), ("row", 0, 0), ("send", 0), ["bind", 1], None):
            self.assertEqual(raised(ended_after, AGREED, 1, False, one, deed), ("Refused", {"deed": deed}))
        for deed in (("fall", 0), ("fall", 1)):
            self.assertEqual(raised(ended_after, AGREED, 0, False, one, deed), ("Refused", {"deed": deed}))
            returned(ended_after, AGREED, 1, False, one, deed)
        lost = ended_after(AGREED, 1, False, one, ("fall", 0))
        for deed in (("fall", 0), ("fall", 1), ("bind", 0), ("end", 0)):
            self.assertEqual(raised(ended_after, AGREED, 1, False, lost, deed), ("Refused", {"deed": deed}))

    def test_unfit_ahead_of_refused(self):
        for agreement, most in ((COIN, 1), (UNLIKE, 0), (HASTY, 0), (SPREAD, 1), (central(3), 2)):
            ending = begun(agreement, begin(agreement))
            for bold in (False, True):
                self.assertEqual(raised(open_endings, agreement, most, bold, ending), ("Unfit", {}))
                self.assertEqual(raised(ends_of, agreement, most, bold, ending), ("Unfit", {}))
                for deed in (("bind", 0), ("end", 0), ("fall", 0), None, []):
                    self.assertEqual(raised(ended_after, agreement, most, bold, ending, deed), ("Unfit", {}))

    def test_too_many_ahead_of_all(self):
        for agreement in (full_reach(1), CLASHING):
            ending = begun(agreement, begin(agreement))
            for most in (0, 3):
                self.assertEqual(raised(open_endings, agreement, most, True, ending), TOO_MANY)
                self.assertEqual(raised(ends_of, agreement, most, True, ending), TOO_MANY)
                for deed in (("bind", 0), None):
                    self.assertEqual(raised(ended_after, agreement, most, True, ending, deed), TOO_MANY)


class WhatHolds(unittest.TestCase):
    """[E3], and with it [A2] (b): all endings of all standings of small agreements."""

    def test_all_endings(self):
        many = ended = 0
        for agreement, most in without_twins(SAMPLES + (central(2), everyone(2)), 90):
            for bold in (False, True):
                checked = set()
                for standing in reach(agreement, most)[::3]:
                    for ending in ends_of(agreement, most, bold, begun(agreement, standing)):
                        if ending not in checked:
                            checked.add(ending)
                            ended += self.check(agreement, most, ending)
                many += len(checked)
        self.assertGreater(many, 10000)
        self.assertGreater(ended, 1000)

    def check(self, agreement, most, ending):
        """Whether all houses left have ended."""
        standing, bound, ended = ending
        left = left_in(ending)
        self.assertLessEqual(len(standing[3]), most)
        self.assertLessEqual(len({bound[house] for house in left} - {""}), 1)
        self.assertLessEqual(set(bound) | set(ended), {"", "done", "off"})
        if "done" in ended:
            self.assertNotIn("off", ended)
            self.assertTrue(lets_done(agreement, standing))
        if needs_done(agreement, standing):
            self.assertNotIn("off", ended)
        waiting = [house for house in left if not ended[house]]
        deeds = [deed for deed in told_deeds(most, ending) if deed[0] != "fall"]
        self.assertEqual(bool(waiting), bool(deeds))
        return not waiting

    def test_two_beats(self):
        """Where nobody falls any more, each house left does two deeds at the most; a drawn order."""
        for agreement, most in without_twins(SAMPLES, 60):
            draw = Draw(most)
            for standing in reach(agreement, most)[::5]:
                for bold in (False, True):
                    ending, did = begun(agreement, standing), []
                    while True:
                        deeds = [deed for deed in open_endings(agreement, most, bold, ending) if deed[0] != "fall"]
                        if not deeds:
                            break
                        did.append(draw.pick(deeds))
                        ending = ended_after(agreement, most, bold, ending, did[-1])
                    for house in left_in(ending):
                        self.assertLessEqual([deed[1] for deed in did].count(house), 2)
                    self.assertEqual(len({ending[2][house] for house in left_in(ending)}), 1)
                    self.assertNotEqual(ending[2][left_in(ending)[0]], "")

    def test_what_stays(self):
        for agreement, most in ((AGREED, 1), (SPREAD_LATE, 1), (WILLING, 3), (READY, 1)):
            for standing in reach(agreement, most):
                for ending in ends_of(agreement, most, True, begun(agreement, standing)):
                    self.assertEqual((ending[0][0], ending[0][2]), (standing[0], standing[2]))
                    self.assertLessEqual(set(standing[3]), set(ending[0][3]))
                    for house in range(len(agreement)):
                        expected = () if house in ending[0][3] else standing[1][house]
                        self.assertEqual(ending[0][1][house], expected)
                    self.assertIn(ending[0], all_standings(agreement, most))


if __name__ == "__main__":
    unittest.main()
