import itertools
import unittest

from leftstanding.books import agreement_error
from leftstanding.endings import begun, ends_of
from leftstanding.reaches import reach
from leftstanding.returns import asked, comes_up
from leftstanding.twins import twins
from drawn import small_ones
from model import all_standings, first_twins, seen, told_table
from samples import (
    AGREED, CLASHING, COIN, HASTY, KINDS, LATE, LONE, READY, SPREAD, SPREAD_LATE, UNLIKE, WILLING, central,
    everyone, full_reach, longest, raised, returned, same,
)

TOO_MANY = ("TooMany", {"limit": 4000})
SAMPLES = small_ones(90) + (central(3), everyone(3))
# The house 0 ends as it throws, when the others have taken notice; so what they know tells the end.
NOTED = (
    (("yes", "yes", "yes", "done", "off"), (
        (0, (), 1, ((1, "do"), (2, "do")), False),
        (0, (), 2, ((1, "off"), (2, "off")), False),
        (1, ((1, "got"), (2, "got")), 3, (), False),
        (2, ((1, "got"), (2, "got")), 4, (), False),
    )),
) + ((("yes", "yes", "yes"), (
    (0, ((0, "do"),), 1, ((0, "got"),), False),
    (0, ((0, "off"),), 2, ((0, "got"),), False),
)),) * 2


def cases(samples=SAMPLES):
    """Agreements and numbers of falls without twins."""
    for agreement in samples:
        for most in range(len(agreement)):
            if first_twins(agreement, most) is None:
                yield agreement, most


def concerning(agreement, most, house, state):
    """The standings that concern the house in this state, as the document tells it."""
    found = []
    for standing in all_standings(agreement, most):
        states, _, _, fallen = standing
        others = set(range(len(agreement))) - set(fallen) - {house}
        if states[house] == state and others and (house in fallen or len(fallen) < most):
            found.append(standing)
    return found


def told_comes_up(agreement, most, bold, house):
    ends, found = dict(told_table(agreement, most, bold)), []
    for state, own in enumerate(agreement[house][0]):
        told = {ends[seen(standing)] for standing in concerning(agreement, most, house, state)}
        if not told:
            found.append("never")
        elif own in ("done", "off"):
            found.append(own)
        else:
            found.append(told.pop() if len(told) == 1 else "ask")
    return tuple(found)


def told_asked(agreement, most, bold, house, state):
    if told_comes_up(agreement, most, bold, house)[state] != "ask":
        return ()
    ends = dict(told_table(agreement, most, bold))
    rows = {(standing[0], ends[seen(standing)]) for standing in concerning(agreement, most, house, state)}
    others = [other for other in range(len(agreement)) if other != house]
    found = []
    for some in itertools.chain(*[itertools.combinations(others, many) for many in range(1, len(agreement))]):
        alike = all(
            end == other_end or any(states[own] != other_states[own] for own in some)
            for states, end in rows for other_states, other_end in rows
        )
        found += [(len(some), some)] if alike else []
    return min(found)[1] if found else None


class ComesUp(unittest.TestCase):

    def test_each(self):
        found = {}
        for agreement, most in cases():
            for bold in (False, True):
                for house in range(len(agreement)):
                    expected = told_comes_up(agreement, most, bold, house)
                    self.assertTrue(same(returned(comes_up, agreement, most, bold, house), expected))
                    for own, told in zip(agreement[house][0], expected, strict=True):
                        found[own, told] = found.get((own, told), 0) + 1
        self.assertEqual(set(found), {
            ("open", "never"), ("open", "off"), ("yes", "never"), ("yes", "done"), ("yes", "off"), ("yes", "ask"),
            ("done", "never"), ("done", "done"), ("off", "never"), ("off", "off"),
        })
        self.assertGreater(min(found.values()), 5, found)

    def test_most_0(self):
        for agreement, most in cases():
            if most == 0:
                for house, (kinds, _) in enumerate(agreement):
                    for bold in (False, True):
                        self.assertEqual(returned(comes_up, agreement, 0, bold, house), ("never",) * len(kinds))

    def test_states_to_which_no_row_leads(self):
        kinds = KINDS + ("yes", "done", "off", "open")
        lonely = ((kinds, ((0, (), 1, (), False),)), (("yes",), ()))
        self.assertIsNone(agreement_error(lonely))
        for bold, first in ((False, ("off", "off")), (True, ("off", "ask"))):
            self.assertEqual(returned(comes_up, lonely, 1, bold, 0), first + ("never",) * 6)
            for state in range(2, 8):
                self.assertEqual(returned(asked, lonely, 1, bold, 0, state), ())

    def test_of_some(self):
        for bold in (False, True):
            for house in (0, 1):
                self.assertEqual(returned(comes_up, AGREED, 1, bold, house), ("off", "ask", "done", "off"))
        self.assertEqual(returned(comes_up, LATE, 1, False, 0), ("off", "off", "done", "off"))
        self.assertEqual(returned(comes_up, WILLING, 3, True, 1), ("done", "done"))
        self.assertEqual(returned(comes_up, WILLING, 3, False, 1), ("ask", "done"))

    def test_each_condition_tells(self):
        """Leaving out any of the standings that concern a house would change something."""
        changes = {"fallen": 0, "may fall yet": 0}
        for agreement, most in cases():
            for house in range(len(agreement)):
                for state in range(len(agreement[house][0])):
                    ends = dict(told_table(agreement, most, False))
                    told = {True: set(), False: set()}
                    for standing in concerning(agreement, most, house, state):
                        told[house in standing[3]].add(ends[seen(standing)])
                    changes["fallen"] += bool(told[True] - told[False])
                    changes["may fall yet"] += bool(told[True] and told[False] - told[True])
        # Who is fallen fell before, so nothing is told by these alone that was not told, but that views may grow less.
        self.assertGreater(changes["fallen"], 3)
        self.assertGreater(changes["may fall yet"], 3)

    def test_house_left_that_may_not_fall_any_more(self):
        """When as many have fallen as may, a house that is left is not concerned."""
        standings = [standing for standing in all_standings(READY, 1) if standing[3] == (1,)]
        states = {standing[0][0] for standing in standings}
        self.assertEqual(states, {0, 1, 2, 3, 4})
        for standing in standings:
            self.assertNotIn(standing, concerning(READY, 1, 0, standing[0][0]))
        self.assertEqual(returned(comes_up, READY, 1, False, 0), told_comes_up(READY, 1, False, 0))


class Asked(unittest.TestCase):

    def test_each(self):
        found = {}
        for agreement, most in cases():
            for bold in (False, True):
                for house in range(len(agreement)):
                    for state in range(len(agreement[house][0])):
                        expected = told_asked(agreement, most, bold, house, state)
                        self.assertTrue(same(returned(asked, agreement, most, bold, house, state), expected))
                        kind = None if expected is None else (len(agreement), len(expected))
                        found[kind] = found.get(kind, 0) + 1
        for kind in (None, (2, 0), (2, 1), (3, 0), (3, 1), (4, 1)):
            self.assertGreater(found.get(kind, 0), 1, found)

    def test_of_some(self):
        for house in (0, 1):
            for state in (0, 2, 3):
                for bold in (False, True):
                    self.assertEqual(returned(asked, AGREED, 1, bold, house, state), ())
        self.assertIsNone(returned(asked, AGREED, 1, False, 0, 1))
        self.assertEqual(returned(asked, AGREED, 1, False, 1, 1), (0,))
        self.assertEqual(returned(asked, AGREED, 1, True, 0, 1), (1,))
        self.assertIsNone(returned(asked, AGREED, 1, True, 1, 1))

    def test_first_of_the_shortest(self):
        found = set()
        for agreement, most in cases(SAMPLES + (NOTED, FOUR)):
            for bold in (False, True):
                for house in range(len(agreement)):
                    for state in range(len(agreement[house][0])):
                        told = told_asked(agreement, most, bold, house, state)
                        if told:
                            self.assertEqual(asked(agreement, most, bold, house, state), told)
                            found.add((len(agreement), house, told))
        for own in ((3, 0, (1,)), (3, 1, (0,)), (3, 0, (1, 2)), (4, 1, (0,)), (4, 1, (0, 2)), (4, 0, (1, 2, 3))):
            self.assertIn(own, found)


# The others say yes, each by itself; only the house 0 may end "done" then, and nobody tells anything.
FOUR = (
    (("yes", "done"), ((0, ((1, "yes"), (2, "yes"), (3, "yes")), 1, (), False),)),
) + ((("open", "yes"), ((0, (), 1, ((0, "yes"),), False),)),) * 3


class Errors(unittest.TestCase):

    def check(self, agreement, most, expected):
        for bold in (False, True):
            for house in range(len(agreement)):
                self.assertEqual(raised(comes_up, agreement, most, bold, house), expected)
                for state in (0, len(agreement[house][0]) - 1):
                    self.assertEqual(raised(asked, agreement, most, bold, house, state), expected)

    def test_twins(self):
        for agreement, most in ((COIN, 1), (UNLIKE, 0), (UNLIKE, 1), (HASTY, 0), (SPREAD, 1), (SPREAD, 2),
                                (SPREAD_LATE, 2), (central(3), 2)):
            self.check(agreement, most, ("Unfit", {}))

    def test_too_many(self):
        self.check(full_reach(1), 0, TOO_MANY)
        self.check(CLASHING, 0, TOO_MANY)
        self.check((LONE,) * 4, 1, TOO_MANY)
        # None of these states needs to ask.
        self.assertEqual(raised(reach, full_reach(0), 1), TOO_MANY)
        self.assertEqual(raised(comes_up, full_reach(0), 1, True, 0), TOO_MANY)
        self.assertEqual(returned(comes_up, full_reach(0), 0, True, 0), ("never",) * 4)
        self.assertEqual(returned(asked, full_reach(0), 0, True, 3, 0), ())
        self.assertEqual(raised(asked, longest(False), 3, False, 0, 0), TOO_MANY)


class WhatHolds(unittest.TestCase):
    """[G3]"""

    def test_all_endings(self):
        found = {"done": 0, "off": 0, "ask": 0, "tuples": 0}
        small = [own for own in small_ones(90) if len(all_standings(own, len(own) - 1)) <= 90]
        for agreement, most in cases(small + [central(2), everyone(2), FOUR]):
            for bold in (False, True):
                met = self.endings(agreement, most, bold)
                for (house, state), rows in met.items():
                    self.check(agreement, most, bold, house, state, rows, found)
        self.assertGreater(min(found.values()), 20, found)

    def endings(self, agreement, most, bold):
        """For each fallen house that has not ended, and its state, the states of all and the ends of the others."""
        met = {}
        for standing in reach(agreement, most):
            for (states, _, _, fallen), _, ended in ends_of(agreement, most, bold, begun(agreement, standing)):
                for house in fallen:
                    others = {end for other, end in enumerate(ended) if end and other != house}
                    if not ended[house] and others:
                        met.setdefault((house, states[house]), set()).add((states, tuple(sorted(others))))
        return met

    def check(self, agreement, most, bold, house, state, rows, found):
        told = comes_up(agreement, most, bold, house)[state]
        ends = {end for _, others in rows for end in others}
        if told == "ask":
            self.assertEqual(ends, {"done", "off"})
        else:
            self.assertEqual(ends, {told})
        found[told] += 1
        some = asked(agreement, most, bold, house, state)
        if some is not None:
            alike = {}
            for states, others in rows:
                alike.setdefault(tuple(states[own] for own in some), set()).update(others)
            self.assertEqual({len(own) for own in alike.values()}, {1})
            found["tuples"] += some != ()

    def test_open_states(self):
        for agreement, most in cases():
            for bold in (False, True):
                for house, (kinds, _) in enumerate(agreement):
                    for own, told in zip(kinds, comes_up(agreement, most, bold, house), strict=True):
                        if own == "open":
                            self.assertIn(told, ("never", "off"))

    def test_twins_are_refused_just_where_there_are_some(self):
        for agreement in SAMPLES:
            for most in range(len(agreement)):
                if twins(agreement, most) is not None:
                    self.assertEqual(raised(comes_up, agreement, most, True, 0), ("Unfit", {}))


if __name__ == "__main__":
    unittest.main()
