import unittest

from leftstanding.moving import led
from leftstanding.reaches import clash, reach, road
from leftstanding.standings import begin
from leftstanding.twins import rule_error, table, twins, twins_error
from drawn import drawn_run, small_ones
from model import Run, all_standings, first_twins, lets_done, lookalikes, needs_done, seen, told_table
from samples import (
    AGREED, CLASHING, COIN, DEAF, FULL, HASTY, LATE, LONE, PAIR, READY, SPREAD, SPREAD_LATE, TRIO, UNLIKE, WILLING,
    any_values, at, central, changed, everyone, full_reach, longest, paths, raised, returned, same,
)

TOO_MANY = ("TooMany", {"limit": 4000})
SAMPLES = small_ones(90) + (FULL, TRIO)
ALL_FALL = tuple(("fall", house) for house in range(4))


def with_twins(samples=SAMPLES):
    return [(own, most) for own in samples for most in range(len(own)) if first_twins(own, most)]


def without_twins(samples=SAMPLES):
    return [(own, most) for own in samples for most in range(len(own)) if not first_twins(own, most)]


def told_error(agreement, most, value):
    """What the document tells of the value as a pair of roads, worked out once more."""
    if value.__class__ is not tuple or len(value) != 2 or any(part.__class__ is not tuple for part in value):
        return "form"
    if max(len(value[0]), len(value[1])) > 200:
        return "form"
    ends = []
    for which in (0, 1):
        run = Run(agreement)
        for place, deed in enumerate(value[which]):
            fits = [own for own in run.deeds() if own[0] != "fall" or len(run.standing()[3]) < most]
            if repr(deed) not in [repr(own) for own in fits]:
                return ("deed", which, place)
            run.do(deed)
        ends.append(run.standing())
    if seen(ends[0]) != seen(ends[1]):
        return "views"
    return None if needs_done(agreement, ends[0]) and not lets_done(agreement, ends[1]) else "ends"


def told_rule_error(agreement, most, value):
    """What the document tells of the value as a rule, worked out once more."""
    alike = lookalikes(agreement, most)
    names = {repr(own): own for own in alike}
    if value.__class__ is not tuple or any(pair.__class__ is not tuple or len(pair) != 2 for pair in value):
        return "form"
    told = {}
    for place, (own, end) in enumerate(value):
        if repr(own) not in names or repr(own) in told or repr(end) not in ("'done'", "'off'"):
            return ("view", place)
        told[repr(own)] = end
    lacking = [own for own in alike if repr(own) not in told]
    if lacking:
        return ("lacks", min(lacking))
    for place, (own, end) in enumerate(value):
        for standing in alike[own]:
            if needs_done(agreement, standing) and end == "off" or not lets_done(agreement, standing) and end == "done":
                return ("wrong", place)
    return None


class Twins(unittest.TestCase):

    def test_first_pair(self):
        for agreement in SAMPLES + (central(3), everyone(3)):
            for most in range(len(agreement)):
                pair = first_twins(agreement, most)
                ways = all_standings(agreement, most)
                expected = pair and tuple(ways[standing] for standing in pair)
                self.assertTrue(same(returned(twins, agreement, most), expected))
        self.assertGreater(len(with_twins()), 50)
        self.assertGreater(len(without_twins()), 50)

    def test_some(self):
        for agreement, bears in ((COIN, 0), (AGREED, 1), (PAIR, 1), (LATE, 1), (HASTY, -1), (DEAF, 1), (SPREAD, 0),
                                 (SPREAD_LATE, 1), (UNLIKE, -1), (WILLING, 3), (READY, 1), (central(2), 1),
                                 (central(3), 1), (everyone(2), 1), (everyone(3), 1)):
            for most in range(len(agreement)):
                self.assertEqual(twins(agreement, most) is None, most <= bears, (agreement, most))

    def test_own_twin(self):
        self.assertEqual(returned(twins, UNLIKE, 0), ((("row", 0, 0), ("row", 1, 0)),) * 2)
        self.assertEqual(returned(twins, HASTY, 0), (clash(HASTY), clash(HASTY)))
        alone = (UNLIKE[0], (("yes",), ()), (("open",), ()))
        for most in range(3):
            self.assertEqual(returned(twins, alone, most), ((("row", 0, 0),),) * 2)

    def test_twin_that_comes_first(self):
        """Of the standings that look alike neither the first one that forbids nor the last one must be passed over."""
        for agreement, most in with_twins():
            one, other = twins(agreement, most)
            numbers = {standing: number for number, standing in enumerate(reach(agreement, most))}
            alike = lookalikes(agreement, most)
            first, second = led(agreement, one), led(agreement, other)
            for standing, number in numbers.items():
                if number < numbers[first] and needs_done(agreement, standing):
                    self.assertTrue(all(lets_done(agreement, own) for own in alike[seen(standing)]))
                if number < numbers[second] and seen(standing) == seen(second):
                    self.assertTrue(lets_done(agreement, standing))

    def test_too_many(self):
        for most in range(4):
            self.assertEqual(raised(twins, full_reach(1), most), TOO_MANY)
            self.assertEqual(raised(twins, (LONE,) * 4, most), TOO_MANY)
        self.assertIsNone(returned(twins, full_reach(0), 0))
        self.assertEqual(raised(twins, CLASHING, 0), TOO_MANY)


class TwinsError(unittest.TestCase):

    def check(self, agreement, most, value, expected):
        found = returned(twins_error, agreement, most, value)
        if not same(found, expected):
            self.fail(f"{found!r} is not {expected!r} of {value!r:.300}")

    def check_told(self, agreement, most, value):
        self.check(agreement, most, value, told_error(agreement, most, value))

    def test_twins(self):
        for agreement, most in with_twins():
            pair = twins(agreement, most)
            self.check(agreement, most, pair, None)
            for other in range(len(agreement)):
                self.check_told(agreement, other, pair)
                self.check_told(agreement, other, pair[::-1])
                self.check_told(agreement, other, (pair[0], pair[0]))

    def test_pairs_of_roads(self):
        found = {}
        for agreement in SAMPLES:
            ways = list(all_standings(agreement, len(agreement) - 1).values())
            for most in range(len(agreement)):
                for k, one in enumerate(ways[::7]):
                    for other in (ways[::7][-1 - k], one, ways[k]):
                        value = (one, other)
                        self.check_told(agreement, most, value)
                        error = told_error(agreement, most, value)
                        kind = error[0] if isinstance(error, tuple) else error
                        found[kind] = found.get(kind, 0) + 1
        for kind in (None, "deed", "views", "ends"):
            self.assertGreater(found[kind], 5)

    def test_not_only_the_first_pair(self):
        many = 0
        for agreement, most in with_twins((COIN, HASTY, UNLIKE, SPREAD)):
            for standings in lookalikes(agreement, most).values():
                for one in standings:
                    for other in standings:
                        value = (road(agreement, most, one), road(agreement, most, other))
                        fits = needs_done(agreement, one) and not lets_done(agreement, other)
                        self.check(agreement, most, value, None if fits else "ends")
                        many += fits and value != twins(agreement, most)
        self.assertGreater(many, 3)

    def test_longer_roads(self):
        """Roads need not be the shortest ones."""
        value = ((("fall", 1), ("row", 0, 0)), (("row", 0, 1), ("send", 0), ("fall", 1)))
        self.check_told(COIN, 1, value)
        self.check(COIN, 1, ((("row", 0, 0), ("fall", 0)), (("row", 0, 1), ("fall", 0))), None)
        long = longest(False)
        deeds = drawn_run(long, 5, falls=0)
        self.check(long, 3, (deeds + ALL_FALL[:3], deeds + ALL_FALL[:3]), "ends")
        self.check(long, 3, (deeds + ALL_FALL[:3], deeds + ALL_FALL[1:]), "views")
        self.check(long, 3, (deeds + ALL_FALL, deeds), ("deed", 0, 199))
        self.check(long, 3, (deeds, deeds + ALL_FALL), ("deed", 1, 199))
        self.check(long, 2, (deeds, deeds + ALL_FALL), ("deed", 1, 198))
        self.check(long, 0, (deeds, deeds + ALL_FALL), ("deed", 1, 196))

    def test_form(self):
        value = twins(COIN, 1)
        for wrong in (
                list(value), [(), ()], (list(value[0]), value[1]), (value[0], list(value[1])), value[:1], value * 2,
                value + ((),), (), ((),), ((), (), ()), (None, ()), ((), None), ((), ""), ("", ""), ((), {}), (0, 0),
                ((), True), None):
            self.check(COIN, 1, wrong, told_error(COIN, 1, wrong))
            self.check(COIN, 1, wrong, "form")
        for many in (200, 201, 202, 3000):
            long = (("fall", 1),) * many
            self.check(COIN, 1, (long, ()), "form" if many > 200 else ("deed", 0, 1))
            self.check(COIN, 1, ((), long), "form" if many > 200 else ("deed", 1, 1))
            self.check(COIN, 1, ((None,), long), "form" if many > 200 else ("deed", 0, 0))

    def test_deeds(self):
        good = (("row", 0, 0), ("send", 0), ("row", 1, 0))
        self.check(COIN, 1, (good, good), "ends")
        wrongs = (
            ("row", 0, 0), ("row", 0, 2), ("fall", 2), ("send", 1), ["fall", 0], ("fall", True), ("fall",), None, 0,
            "fall 0", ("row", 1, 0, 0), ("bind", 0), ("row", True, 0), (), [],
        )
        for place in range(4):
            for wrong in wrongs:
                deeds = good[:place] + (wrong,) + good[place:]
                if place == 0 and wrong == ("row", 0, 0):
                    continue
                self.check_told(COIN, 1, (deeds, (None,)))
                self.check_told(COIN, 1, (good, deeds))
                self.check_told(COIN, 1, ((), deeds))
                self.assertEqual(twins_error(COIN, 1, (deeds, (None,)))[:2], ("deed", 0))
                self.assertEqual(twins_error(COIN, 1, (good, deeds))[:2], ("deed", 1))

    def test_falls_behind_most(self):
        for houses, agreement in ((2, COIN), (3, SPREAD), (4, WILLING)):
            for most in range(houses):
                for falls in range(houses + 1):
                    deeds = ALL_FALL[:falls]
                    expected = "ends" if falls <= most else ("deed", 0, most)
                    if agreement == WILLING and falls <= most:
                        expected = told_error(agreement, most, (deeds, deeds))
                    self.check(agreement, most, (deeds, deeds), expected)
                    self.check(agreement, most, (deeds[::-1], deeds[::-1]),
                               ("deed", 0, most) if falls > most else expected)

    def test_values_of_all_kinds(self):
        value = twins(COIN, 1)
        for wrong in any_values() + [table(COIN, 0, True), COIN, begin(COIN)]:
            self.check_told(COIN, 1, wrong)
            for path in paths(value):
                self.check_told(COIN, 1, changed(value, path, wrong))
        for path in paths(value):
            part = at(value, path)
            others = [[part], (part,), True, False, 0, 1, 2, "row", "fall", ()]
            others += [list(part)] if part.__class__ is tuple else []
            for other in others:
                self.check_told(COIN, 1, changed(value, path, other))

    def test_where_too_many_come(self):
        for agreement in (full_reach(1), (LONE,) * 4, longest(True)):
            for most in range(4):
                self.assertEqual(raised(twins, agreement, most), TOO_MANY)
                self.check(agreement, most, ((), ()), "ends")
                self.check(agreement, most, ((), (("row", 0, 0),)), "views")
                self.check(agreement, most, None, "form")
        self.check(CLASHING, 0, ((("row", 0, 0), ("row", 1, 0)),) * 2, None)
        self.check(CLASHING, 0, ((("row", 0, 0), ("row", 1, 0)), (("row", 1, 0), ("row", 0, 0))), None)


class Table(unittest.TestCase):

    def test_tables(self):
        unlike = 0
        for agreement, most in without_twins(SAMPLES + (central(3), everyone(3))):
            tables = []
            for bold in (False, True):
                found = returned(table, agreement, most, bold)
                self.assertTrue(same(found, told_table(agreement, most, bold)))
                self.assertTrue(all(one[0] < other[0] for one, other in zip(found, found[1:])))
                self.assertEqual({own for own, _ in found}, set(lookalikes(agreement, most)))
                tables.append(found)
            unlike += tables[0] != tables[1]
        self.assertGreater(unlike, 15)

    def test_twins(self):
        for agreement, most in with_twins(SAMPLES + (central(3), everyone(3))):
            for bold in (False, True):
                self.assertEqual(raised(table, agreement, most, bold), ("Unfit", {}))

    def test_too_many(self):
        for agreement, most in (
                (full_reach(1), 0), ((LONE,) * 4, 1), (everyone(4), 2), (everyone(4), 3), (CLASHING, 0)):
            for bold in (False, True):
                self.assertEqual(raised(table, agreement, most, bold), TOO_MANY)
        self.assertEqual(len(table(full_reach(0), 0, True)), 4000)


class RuleError(unittest.TestCase):

    def check(self, agreement, most, value, expected):
        found = returned(rule_error, agreement, most, value)
        if not same(found, expected):
            self.fail(f"{found!r} is not {expected!r} of {value!r:.300}")

    def check_told(self, agreement, most, value):
        expected = told_rule_error(agreement, most, value)
        self.check(agreement, most, value, expected)
        return expected

    def test_tables_in_any_order(self):
        for agreement, most in without_twins(SAMPLES[:60]):
            for bold in (False, True):
                rule = told_table(agreement, most, bold)
                for value in (rule, rule[::-1], rule[::2] + rule[1::2], rule[1:] + rule[:1]):
                    self.check(agreement, most, value, None)

    def test_each_end_changed(self):
        found = set()
        some = (COIN, AGREED, PAIR, LATE, SPREAD_LATE, READY, UNLIKE, DEAF) + SAMPLES[30:40]
        for agreement, most in without_twins(some):
            for bold in (False, True):
                rule = told_table(agreement, most, bold)
                for place, (own, end) in list(enumerate(rule))[::3]:
                    other = (own, "off" if end == "done" else "done")
                    value = rule[:place] + (other,) + rule[place + 1:]
                    found.add(self.check_told(agreement, most, value) is None)
                    self.check_told(agreement, most, value[::-1])
                    self.check_told(agreement, most, tuple((one, "done") for one, _ in rule))
                    self.check_told(agreement, most, tuple((one, "off") for one, _ in rule))
        self.assertEqual(found, {True, False})

    def test_right_rules_are_all_between_both_tables(self):
        for agreement, most in ((COIN, 0), (AGREED, 0), (UNLIKE[:1] * 2, 1)):
            shy, bold = dict(told_table(agreement, most, False)), dict(told_table(agreement, most, True))
            views = sorted(shy)
            self.assertLessEqual(len(views), 16)
            for pattern in range(2 ** len(views)):
                value = tuple((own, "done" if pattern >> k & 1 else "off") for k, own in enumerate(views))
                right = all(end in (shy[own], bold[own]) for own, end in value)
                self.assertEqual(rule_error(agreement, most, value) is None, right)

    def test_form(self):
        rule = table(COIN, 0, False)
        for value in (
                list(rule), [], None, 0, "", {}, dict(rule), rule[0][0], rule + (None,), rule + ((),), rule + ("ab",),
                rule + (list(rule[0]),), (rule[0] + ("off",),) + rule, (rule[0][:1],), ((),), (None,), rule[0], (rule,),
                ((rule[0], rule[1], rule[2]),), (("view", "off", None), (None, None))):
            self.check(COIN, 0, value, told_rule_error(COIN, 0, value))
            self.check(COIN, 0, value, "form")
        self.check(COIN, 0, (), ("lacks", rule[0][0]))

    def test_view(self):
        rule = table(COIN, 0, False)
        wrongs = [table(PAIR, 0, False)[-1], rule[1], ("off", rule[0][0])]
        wrongs += [(own, "off") for own in (None, (), True, rule[0], [rule[0][0]], (rule[0][0],))]
        wrongs += [(rule[0][0], end) for end in ("Done", "yes", "", None, True, ("off",), ["off"])]
        for place in range(len(rule) + 1):
            for wrong in wrongs:
                value = rule[:place] + (wrong,) + rule[place:]
                expected = ("view", place)
                if wrong == rule[1] and place <= 1:
                    expected = ("view", 2)
                self.check(COIN, 0, value, expected)
                self.check_told(COIN, 0, value)

    def test_views_that_equal_one(self):
        """True in the place of 1, lists in the place of tuples, at each depth."""
        for agreement, most in ((COIN, 0), (AGREED, 1), (SPREAD_LATE, 1)):
            rule = table(agreement, most, True)
            for place, (own, end) in list(enumerate(rule))[::9]:
                for path in paths(own):
                    part = at(own, path)
                    others = [[part], (part,), None, {}]
                    if part.__class__ is int:
                        others += [bool(part), str(part), part + 1, 10 ** 399]
                    if part.__class__ is tuple:
                        others += [list(part), part + (0,), part[1:], part + ((),)]
                    for other in others:
                        value = rule[:place] + ((changed(own, path, other), end),) + rule[place + 1:]
                        error = self.check_told(agreement, most, value)
                        if part in (0, 1) and other == part or other == list(part if part.__class__ is tuple else ()):
                            self.assertEqual(error, ("view", place))

    def test_values_of_all_kinds(self):
        rule = table(COIN, 0, True)
        for wrong in any_values() + [COIN, begin(COIN), twins(COIN, 1)]:
            self.check_told(COIN, 0, wrong)
            for path in paths(rule[:2]):
                self.check_told(COIN, 0, changed(rule, path, wrong))
            for value in ((wrong, "off"), (rule[0][0], wrong), (wrong, wrong)):
                self.check(COIN, 0, (value,), ("view", 0))
                self.check(COIN, 0, rule + (value,), ("view", len(rule)))

    def test_lacks(self):
        rule = table(COIN, 0, False)
        for place, (own, _) in enumerate(rule):
            for value in (rule[:place] + rule[place + 1:], (rule[:place] + rule[place + 1:])[::-1]):
                self.check(COIN, 0, value, ("lacks", own))
            self.check(COIN, 0, rule[:place], ("lacks", own))
            self.check(COIN, 0, rule[place + 1:], ("lacks", rule[0][0]))

    def test_what_is_told_first(self):
        rule = table(COIN, 0, False)
        wrong = tuple((own, "off" if end == "done" else "done") for own, end in rule)
        self.check(COIN, 0, wrong, ("wrong", 1))
        self.check(COIN, 0, wrong[:-1], ("lacks", rule[-1][0]))
        self.check(COIN, 0, wrong[:-1] + (wrong[0],), ("view", 6))
        self.check(COIN, 0, wrong[:-1] + ((None, "off"),), ("view", 6))
        self.check(COIN, 0, wrong[:-1] + ((None, "off"), None), "form")
        self.check(COIN, 0, wrong[::-1], ("wrong", 0))

    def test_twins(self):
        for agreement, most in with_twins(SAMPLES[:60]):
            views = sorted(lookalikes(agreement, most))
            for value in (tuple((own, "done") for own in views), tuple((own, "off") for own in views)):
                error = self.check_told(agreement, most, value)
                self.assertEqual(error[0], "wrong")

    def test_too_many(self):
        for agreement, most in ((full_reach(1), 0), (full_reach(1), 3), (CLASHING, 0)):
            for value in (None, (), ((None, "off"),), table(COIN, 0, True)):
                self.assertEqual(raised(rule_error, agreement, most, value), TOO_MANY)


class WhatHolds(unittest.TestCase):
    """[D5]"""

    def test_main(self):
        for agreement in SAMPLES + (central(3),):
            for most in range(len(agreement)):
                if twins(agreement, most) is None:
                    for bold in (False, True):
                        self.assertIsNone(rule_error(agreement, most, table(agreement, most, bold)))
                else:
                    self.assertIsNone(twins_error(agreement, most, twins(agreement, most)))
                    self.assertRaises(ValueError, table, agreement, most, True)

    def test_no_rule_where_there_are_twins(self):
        """All rules are tried, of agreements with few views."""
        tried = 0
        for agreement, most in with_twins(SAMPLES + (UNLIKE,)):
            views = sorted(lookalikes(agreement, most))
            if len(views) <= 6:
                for pattern in range(2 ** len(views)):
                    value = tuple((own, "done" if pattern >> k & 1 else "off") for k, own in enumerate(views))
                    self.assertIsNotNone(rule_error(agreement, most, value))
                    tried += 1
        self.assertGreater(tried, 100)

    def test_between_both_tables(self):
        for agreement, most in without_twins():
            tables = [table(agreement, most, bold) for bold in (False, True)]
            for (own, shy), (other, bold) in zip(*tables, strict=True):
                self.assertEqual(own, other)
                self.assertIn((shy, bold), (("off", "off"), ("off", "done"), ("done", "done")))

    def test_fewer_falls_and_clash(self):
        for agreement in SAMPLES + (central(3), everyone(3)):
            found = [twins(agreement, most) is None for most in range(len(agreement))]
            self.assertEqual(found, sorted(found, reverse=True))
            self.assertEqual(found[0], clash(agreement) is None)


if __name__ == "__main__":
    unittest.main()
