import functools
import unittest

from leftstanding.books import agreement_error, with_late
from leftstanding.costs import beats, quickest, spent
from leftstanding.moving import led
from leftstanding.reaches import reach
from drawn import Draw, drawn_agreements, drawn_run, small_ones
from model import Run, all_standings, kinds_in
from samples import (
    AGREED, CLASHING, COIN, DEAF, HASTY, LATE, LONE, PAIR, READY, SPREAD, SPREAD_LATE, UNLIKE, WILLING, any_values,
    central, everyone, full_reach, line, longest, outcome, raised, returned, same,
)

TOO_MANY = ("TooMany", {"limit": 4000})
IDLE = ((("open", "yes", "off"), ((0, (), 1, (), False), (0, (), 2, (), False))),) * 2
# The fewest letters and the fewest rows, the most letters and the most rows are those of four runs.
FOUR_WAYS = (
    (("yes", "yes", "yes", "yes", "done", "off"), (
        (0, (), 4, ((1, "a"), (1, "b"), (1, "c")), False),
        (0, (), 1, (), False),
        (1, (), 2, (), False),
        (2, (), 4, ((1, "a"),), False),
        (2, (), 3, ((1, "a"), (1, "b")), False),
        (3, (), 4, ((1, "c"), (1, "d"), (1, "e")), True),
        (1, (), 5, (), False),
    )),
    (("yes", "done"), ((0, ((0, "a"),), 1, (), False), (0, ((0, "b"),), 1, ((0, "z"),), False))),
)
REAL = (COIN, AGREED, PAIR, LATE, HASTY, DEAF, UNLIKE, SPREAD, SPREAD_LATE, READY, IDLE, FOUR_WAYS, central(2))


def chatter(one, other):
    """Two houses that send one another the same letter over and over, and take it or not: beats come in many ways."""
    books = []
    for house, many in enumerate((one, other)):
        letter = ((1 - house, "a"),)
        rows = [(0, (), many + 1, (), False)]
        for state in range(many):
            rows += [(state, (), state + 1, letter, False), (state, letter, state + 1, letter, False)]
        rows.append((many, (), many + 1, (), False))
        books.append((("open",) * (many + 1) + ("off",), tuple(rows)))
    return tuple(books)


@functools.lru_cache(maxsize=None)
def ways_on(agreement):
    """For each standing without falls the deeds that can be done, but falls, and the standings behind them."""
    ways = {}
    for standing in all_standings(agreement, 0):
        ways[standing] = []
        for deed in Run(agreement, standing).deeds():
            if deed[0] != "fall":
                run = Run(agreement, standing)
                run.do(deed)
                ways[standing].append((deed, run.standing()))
    return ways


def runs_of(agreement, most):
    """All runs, each with the standing behind it, gone through one by one; None if there are more than told."""
    ways = ways_on(agreement)
    found, rest = [], [((), Run(agreement).standing())]
    while rest:
        deeds, standing = rest.pop()
        rest += [(deeds + (deed,), behind) for deed, behind in ways[standing]]
        if not ways[standing]:
            found.append((deeds, standing))
        if len(found) + len(rest) > most:
            return None
    return found


@functools.lru_cache(maxsize=None)
def ending_so(agreement, most=1500):
    """The runs of an agreement that end "done", those that end "off" and those that get stuck; None if too many."""
    runs = runs_of(agreement, most)
    if runs is None:
        return None
    found = {"done": [], "off": [], "stuck": []}
    for deeds, standing in runs:
        kinds = set(kinds_in(agreement, standing))
        if kinds in ({"done"}, {"off"}):
            found[kinds.pop()].append(deeds)
        else:
            found["stuck"].append(deeds)
    return found


def told_spent(runs):
    if not runs:
        return None
    sends = [[deed[0] for deed in deeds].count("send") for deeds in runs]
    rows = [[deed[0] for deed in deeds].count("row") for deeds in runs]
    return (min(sends), max(sends), min(rows), max(rows))


def told_beats(agreement, deeds):
    """Beats worked out once more, of each house and each letter, by what gets under way and what is under way no more."""
    run, own, times = Run(agreement), [0] * len(agreement), {}
    for deed in deeds:
        before, house = set(run.letters), deed[1]
        assert run.can(deed)
        run.do(deed)
        for letter in before - run.letters:
            own[house] = max(own[house], times.pop(letter))
        for letter in run.letters - before:
            times[letter] = own[house] + 1
    return max(own)


SMALL = tuple(own for own in dict.fromkeys(REAL + small_ones(90)) if ending_so(own) is not None)


class Spent(unittest.TestCase):

    def test_all_runs(self):
        found = {"done": 0, "off": 0, None: 0, "stuck": 0, "unlike": 0}
        for agreement in SMALL:
            runs = ending_so(agreement)
            for end in ("done", "off"):
                expected = told_spent(runs[end])
                self.assertTrue(same(returned(spent, agreement, end), expected), (agreement, end))
                found[end if expected else None] += 1
                found["unlike"] += expected is not None and (expected[0] != expected[1] or expected[2] != expected[3])
            found["stuck"] += bool(runs["stuck"]) and bool(runs["done"] or runs["off"])
        self.assertGreater(min(found.values()), 15, found)

    def test_each_by_itself(self):
        self.assertIsNone(agreement_error(FOUR_WAYS))
        self.assertEqual(returned(spent, FOUR_WAYS, "done"), (1, 6, 2, 5))
        runs = ending_so(FOUR_WAYS)["done"]
        costs = {(sum(deed[0] == "send" for deed in deeds), sum(deed[0] == "row" for deed in deeds)) for deeds in runs}
        self.assertNotIn((1, 2), costs)
        self.assertIsNone(returned(spent, FOUR_WAYS, "off"))

    def test_some(self):
        for agreement, done, off in (
                (COIN, (1, 1, 2, 2), (1, 1, 2, 2)), (AGREED, (3, 3, 4, 4), (1, 2, 2, 3)), (IDLE, None, (0, 0, 2, 2)),
                (WILLING, None, None), (UNLIKE, None, None), (((("open",), ()), (("yes",), ())), None, None),
                (DEAF, (3, 3, 4, 4), None), ((LONE,) * 3, None, None)):
            self.assertEqual(returned(spent, agreement, "done"), done)
            self.assertEqual(returned(spent, agreement, "off"), off)

    def test_runs_that_get_stuck_do_not_count(self):
        """The house 0 tells, or waits for ever; waiting costs more, or less, than telling."""
        for many in (0, 3):
            waits = tuple((1, word) for word in "xyz"[:many])
            agreement = (
                (("yes", "yes", "done"), ((0, (), 1, waits, False), (0, (), 2, ((1, "a"), (1, "b")), False))),
                (("yes", "done"), ((0, ((0, "a"), (0, "b")), 1, (), False),)),
            )
            self.assertEqual(returned(spent, agreement, "done"), (2, 2, 2, 2))
            self.assertEqual(returned(quickest, agreement, "done"), 1)
        # What is not over does not count, though all have ended by their states.
        agreement = ((("yes", "done"), ((0, (), 1, ((1, "a"), (1, "b"), (1, "c")), False),)), (("yes", "done"), (
            (0, ((0, "a"),), 1, (), False),)))
        self.assertEqual(returned(spent, agreement, "done"), (3, 3, 2, 2))

    def test_larger(self):
        for agreement, done, off in (
                (central(3), (6, 6, 6, 6), (2, 6, 3, 5)), (central(4), (9, 9, 8, 8), (3, 9, 4, 7)),
                (everyone(3), (6, 6, 6, 6), (6, 6, 3, 5)), (full_reach(0), None, None)):
            self.assertEqual(returned(spent, agreement, "done"), done)
            self.assertEqual(returned(spent, agreement, "off"), off)

    def test_too_many(self):
        for agreement in (full_reach(1), CLASHING, (LONE,) * 4, longest(True), everyone(4)):
            self.assertEqual(raised(reach, agreement, 0), TOO_MANY)
            for end in ("done", "off"):
                self.assertEqual(raised(spent, agreement, end), TOO_MANY)
        self.assertIsNone(returned(spent, full_reach(0), "off"))
        # More than 4000 timed standings do not matter here.
        self.assertEqual(returned(spent, chatter(5, 5), "off"), (0, 10, 2, 12))


class Beats(unittest.TestCase):

    def test_drawn_runs(self):
        found = set()
        for seed, agreement in enumerate(REAL + tuple(drawn_agreements(150)) + small_ones(90) + (everyone(4), WILLING)):
            for turn in range(3):
                deeds = drawn_run(agreement, seed + turn)
                for many in {0, 1, len(deeds) // 2, len(deeds)}:
                    expected = told_beats(agreement, deeds[:many])
                    self.assertTrue(same(returned(beats, agreement, deeds[:many]), expected))
                    found.add(expected)
        self.assertLessEqual({0, 1, 2, 3}, found)

    def test_chatter(self):
        found = set()
        for seed in range(60):
            deeds = drawn_run(chatter(5, 5), seed, falls=seed % 2)
            self.assertEqual(returned(beats, chatter(5, 5), deeds), told_beats(chatter(5, 5), deeds))
            found.add(told_beats(chatter(5, 5), deeds))
        self.assertGreater(len(found), 3)

    def test_letter_by_letter(self):
        """A line of letters there and back; another letter that was sent early is taken late."""
        back = (("open",) * 8, (
            (0, (), 1, ((1, "a"), (1, "b")), False), (1, ((1, "a"),), 2, ((1, "c"),), False),
            (2, ((1, "b"),), 3, (), False),
        ))
        there = (("open",) * 8, (
            (0, ((0, "a"),), 1, ((0, "a"), (0, "b")), False), (1, ((0, "b"), (0, "c")), 2, (), False),
        ))
        deeds = (
            ("row", 0, 0), ("send", 0), ("row", 1, 0), ("send", 1), ("send", 0), ("row", 0, 1), ("send", 0),
            ("send", 1), ("row", 0, 2), ("row", 1, 1),
        )
        expected = (0, 0, 0, 1, 1, 1, 2, 2, 2, 2, 3)
        for many in range(11):
            self.assertEqual(returned(beats, (back, there), deeds[:many]), expected[many], many)

    def test_the_same_letter_under_way_keeps_its_beat(self):
        zero = (("open",) * 4, (
            (0, (), 1, ((1, "a"),), False), (1, ((1, "b"),), 2, ((1, "a"),), False), (1, (), 3, ((1, "a"),), False)))
        one = (("open",) * 4, ((0, (), 1, ((0, "b"),), False), (1, ((0, "a"),), 2, (), False),
                               (2, ((0, "a"),), 3, (), False)))
        start = (("row", 0, 0), ("send", 0), ("row", 1, 0), ("send", 1))
        later = (("row", 0, 1), ("send", 0))
        # The second letter is the first one, that was sent at the beat 0.
        self.assertEqual(returned(beats, (zero, one), start + later + (("row", 1, 1),)), 1)
        self.assertEqual(raised(beats, (zero, one), start + later + (("row", 1, 1), ("row", 1, 2))),
                         ("Refused", {"deed": ("row", 1, 2)}))
        # Taken first, it is sent anew, a beat later.
        self.assertEqual(returned(beats, (zero, one), start + (("row", 1, 1),) + later + (("row", 1, 2),)), 2)

    def test_falls(self):
        self.assertEqual(returned(beats, COIN, (("row", 0, 0), ("send", 0), ("fall", 0), ("row", 1, 0))), 1)
        self.assertEqual(returned(beats, COIN, (("row", 0, 0), ("send", 0), ("row", 1, 0), ("fall", 1))), 1)
        self.assertEqual(returned(beats, COIN, (("fall", 1), ("fall", 0))), 0)
        whole = (("row", 0, 0), ("send", 0), ("row", 1, 0), ("send", 1), ("row", 0, 2), ("send", 0), ("row", 1, 3))
        for place in range(len(whole) + 1):
            for house in (0, 1):
                deeds = whole[:place] + (("fall", house),)
                self.assertEqual(returned(beats, AGREED, deeds), told_beats(AGREED, whole[:place]))

    def test_most_deeds(self):
        for late in (False, True):
            agreement = longest(late)
            deeds = drawn_run(agreement, 7, falls=0) + tuple(("fall", house) for house in range(4))
            self.assertEqual(len(deeds), 200)
            self.assertEqual(returned(beats, agreement, deeds), 0)
            self.assertEqual(raised(beats, agreement, deeds[:-1] + (("fall", 0),)), ("Refused", {"deed": ("fall", 0)}))

    def test_no_deeds(self):
        for agreement in REAL + (full_reach(1), longest(True)):
            self.assertTrue(same(returned(beats, agreement, ()), 0))

    def test_refused(self):
        whole = (("row", 0, 0), ("send", 0), ("row", 1, 0), ("send", 1), ("row", 0, 2), ("send", 0), ("row", 1, 3))
        for place in range(len(whole)):
            for wrong in (("row", 1, 2), ("row", 0, 3), ("send", (place + 1) % 2) if place < 6 else ("send", 0)):
                deeds = whole[:place] + (wrong,) + whole[place:]
                expected = outcome(led, (AGREED, deeds), {})
                self.assertEqual(expected[0], "raises")
                found = outcome(beats, (AGREED, deeds), {})
                self.assertEqual(found, expected)
                self.assertIs(found[2]["deed"], expected[2]["deed"])
        for deeds in ((("fall", 0), ("fall", 0), ("row", 0, 0)), (("fall", 0), ("row", 0, 0), ("fall", 0))):
            self.assertEqual(raised(beats, AGREED, deeds), ("Refused", {"deed": deeds[1]}))
        found = outcome(beats, (AGREED, (("fall", 1), whole[3])), {})
        self.assertIs(found[2]["deed"], whole[3])


class Quickest(unittest.TestCase):

    def test_all_runs(self):
        found = set()
        for agreement in SMALL:
            runs = ending_so(agreement)
            for end in ("done", "off"):
                expected = min((told_beats(agreement, deeds) for deeds in runs[end]), default=None)
                self.assertTrue(same(returned(quickest, agreement, end), expected))
                found.add(expected)
        self.assertLessEqual({None, 0, 1, 2, 3}, found)

    def test_some(self):
        for agreement, done, off in ((AGREED, 3, 1), (COIN, 1, 1), (IDLE, None, 0), (READY, 5, 1), (central(3), 3, 1),
                                     (everyone(3), 1, 0), (WILLING, None, None), (chatter(4, 4), None, 0)):
            self.assertEqual(returned(quickest, agreement, "done"), done)
            self.assertEqual(returned(quickest, agreement, "off"), off)

    def test_the_least_of_unlike_runs_to_one_standing(self):
        """The house 1 may take the letter, or leave it; behind both the same standing comes."""
        zero = (("yes", "yes", "done"), ((0, (), 1, ((1, "a"),), False), (1, (), 2, ((1, "a"),), False)))
        one = (("yes", "yes", "done"), (
            (0, ((0, "a"),), 1, (), False), (0, (), 1, (), False), (1, (), 2, (), False)))
        self.assertEqual(returned(quickest, (zero, one), "done"), 0)
        strict = (one[0], (one[1][0], one[1][2]))
        self.assertEqual(returned(quickest, (zero, strict), "done"), 1)

    def test_too_many_standings(self):
        for agreement in (full_reach(1), CLASHING, (LONE,) * 4, everyone(4)):
            for end in ("done", "off"):
                self.assertEqual(raised(quickest, agreement, end), TOO_MANY)
        # Just 4000 timed standings come to this one.
        self.assertIsNone(returned(quickest, full_reach(0), "done"))

    def test_too_many_timed_standings(self):
        for one, other, many in ((4, 5, 566), (5, 5, 713)):
            agreement = chatter(one, other)
            self.assertIsNone(agreement_error(agreement))
            self.assertEqual(len(reach(agreement, 0)), many)
            self.assertGreater(len(timed_standings(agreement)), 4000)
            # A run of two deeds ends "off".
            self.assertEqual(led(agreement, (("row", 0, 0), ("row", 1, 0)))[0], (one + 1, other + 1))
            for end in ("done", "off"):
                self.assertEqual(raised(quickest, agreement, end), TOO_MANY)
                self.assertEqual(outcome(spent, (agreement, end), {})[0], "returns")
        self.assertEqual(len(timed_standings(chatter(4, 4))), 2913)

    def test_just_so_many_timed_standings(self):
        """Beside a house that goes through some standings by itself: 37 timed ones of two houses, so many times."""
        self.assertEqual(len(timed_standings(chatter(1, 1))), 37)
        for steps, many in ((7, 37 * 8), (6, 37 * 7)):
            self.assertEqual(len(timed_standings(chatter(1, 1) + (line(0, steps),))), many)
        fine = chatter(1, 1) + (line(0, 26), line(0, 3))
        self.assertEqual(37 * 27 * 4, 3996)
        self.assertIsNone(returned(quickest, fine, "off"))
        more = chatter(1, 1) + (line(0, 36), line(0, 2))
        self.assertEqual(37 * 37 * 3, 4107)
        self.assertEqual(len(reach(more, 0)), 33 * 37 * 3)
        self.assertEqual(raised(quickest, more, "off"), TOO_MANY)
        self.assertIsNone(returned(spent, more, "off"))


def timed_standings(agreement, most=4000):
    """All timed standings, or somewhat more than told, worked out once more: each deed of each, one after the other."""
    start = (Run(agreement).standing(), (0,) * len(agreement), ())
    met, rest = {start}, [start]
    while rest and len(met) <= most:
        standing, own, times = rest.pop()
        for deed, behind in ways_on(agreement)[standing]:
            known, house = dict(zip(standing[2], times, strict=True)), deed[1]
            gone = [known[letter] for letter in standing[2] if letter not in behind[2]]
            beat = max([own[house]] + gone)
            now = (behind, own[:house] + (beat,) + own[house + 1:], tuple(
                known[letter] if letter in known else beat + 1 for letter in behind[2]))
            if now not in met:
                met.add(now)
                rest.append(now)
    return met


class WhatHolds(unittest.TestCase):
    """[J5]"""

    def test_letters_hang_on_the_rows(self):
        for agreement in SMALL:
            runs = ending_so(agreement)
            for deeds in (runs["done"] + runs["off"] + runs["stuck"])[::7]:
                rows = [deed for deed in deeds if deed[0] == "row"]
                sends = sum(len(agreement[house][1][k][3]) for _, house, k in rows)
                self.assertEqual(sends, len(deeds) - len(rows))
                self.assertLessEqual(len(rows), sum(len(kinds) - 1 for kinds, _ in agreement))

    def test_beats_are_bounded_and_never_grow_less(self):
        for seed, agreement in enumerate(REAL + tuple(drawn_agreements(90)) + (chatter(5, 5), everyone(4))):
            deeds, last = drawn_run(agreement, seed), 0
            for many in range(len(deeds) + 1):
                now = beats(agreement, deeds[:many])
                rows = [deed for deed in deeds[:many] if deed[0] == "row" and agreement[deed[1]][1][deed[2]][1]]
                self.assertGreaterEqual(now, last)
                self.assertLessEqual(now, [deed[0] for deed in deeds[:many]].count("send"))
                self.assertLessEqual(now, len(rows))
                last = now

    def test_quickest_beside_spent(self):
        found = 0
        for agreement in SMALL + (central(3), everyone(3), chatter(4, 4)):
            for end in ("done", "off"):
                least, told = quickest(agreement, end), spent(agreement, end)
                self.assertIs(least is None, told is None)
                if told is not None:
                    self.assertLessEqual(least, told[0])
                    found += 1
        self.assertGreater(found, 30)

    def test_late_or_not(self):
        for seed, agreement in enumerate(SMALL):
            draw, other = Draw(seed), agreement
            for house, (_, rows) in enumerate(agreement):
                for k in range(len(rows)):
                    other = with_late(other, house, k, draw.below(2) == 0)
            for end in ("done", "off"):
                self.assertEqual(spent(other, end), spent(agreement, end))
                self.assertEqual(quickest(other, end), quickest(agreement, end))

    def test_neighbouring_deeds_exchanged(self):
        """No letter is sent twice in these runs: so beats does not hang on the order of the houses."""
        exchanged = 0
        for agreement in SMALL + (central(3), everyone(3), everyone(4), WILLING):
            for seed in range(3):
                deeds = list(drawn_run(agreement, seed, falls=0))
                expected = beats(agreement, tuple(deeds))
                if sent_twice(agreement, deeds):
                    continue
                for place in range(len(deeds) - 1):
                    if deeds[place][1] != deeds[place + 1][1]:
                        other = deeds[:place] + [deeds[place + 1], deeds[place]] + deeds[place + 2:]
                        found = outcome(beats, (agreement, tuple(other)), {})
                        if found[0] == "returns":
                            self.assertEqual(found[1], expected)
                            exchanged += 1
                            deeds = other
        self.assertGreater(exchanged, 300)


def sent_twice(agreement, deeds):
    sent = [(house,) + letter for _, house, k in [deed for deed in deeds if deed[0] == "row"]
            for letter in agreement[house][1][k][3]]
    return len(set(sent)) < len(sent)


class Values(unittest.TestCase):

    def test_deeds_that_are_none(self):
        """Whatever is no deed is refused, just as led does."""
        for value in any_values():
            if value.__class__ is tuple:
                found = outcome(beats, (COIN, (("fall", 0), value)), {})
                self.assertEqual(found[:2], ("raises", "Refused"))
                self.assertIs(found[2]["deed"], value)


if __name__ == "__main__":
    unittest.main()
