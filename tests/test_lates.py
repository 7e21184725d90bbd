import unittest

from leftstanding.books import agreement_error, with_late
from leftstanding.lates import late_ones, latest
from leftstanding.moving import after, open_deeds
from leftstanding.reaches import clash, reach
from leftstanding.standings import begin
from leftstanding.twins import twins
from drawn import Draw, drawn_agreements, drawn_run, drawn_variant, small_ones
from model import all_standings, first_twins
from samples import (
    AGREED, CLASHING, COIN, HASTY, LATE, LONE, PAIR, READY, SPREAD, SPREAD_LATE, UNLIKE, WILLING, central, changed,
    everyone, full_reach, line, longest, raised, returned, same,
)

TOO_MANY = ("TooMany", {"limit": 4000})
PLEDGE = (
    (("yes", "done"), ((0, ((1, "yes"),), 1, (), False),)),
    (("open", "yes"), ((0, (), 1, ((0, "yes"), (0, "note")), False),)),
)
REAL = (COIN, AGREED, PAIR, LATE, HASTY, SPREAD, SPREAD_LATE, READY, UNLIKE, PLEDGE, central(2), everyone(2))
DRAWN = tuple(drawn_variant(seed) for seed in (20, 39, 45, 64, 73, 99, 107, 120, 139, 150)) + small_ones(60)
SAMPLES = tuple(own for own in REAL + DRAWN if len(all_standings(own, len(own) - 1)) <= 150)


def rows_in(agreement, late):
    return [(house, k) for house, (_, rows) in enumerate(agreement) for k, row in enumerate(rows) if row[4] is late]


def made_late(agreement, house, k):
    return changed(agreement, (house, 1, k, 4), True)


def told_late_ones(agreement, most):
    return tuple(
        (house, k) for house, k in rows_in(agreement, False)
        if first_twins(made_late(agreement, house, k), most) is None
    )


def told_latest(agreement, most):
    for house in range(len(agreement)):
        for k in range(len(agreement[house][1])):
            if not agreement[house][1][k][4]:
                other = made_late(agreement, house, k)
                agreement = agreement if first_twins(other, most) else other
    return agreement


def cases(samples=SAMPLES):
    return [(agreement, most) for agreement in samples for most in range(len(agreement))]


def all_late(agreement):
    for house, k in rows_in(agreement, False):
        agreement = made_late(agreement, house, k)
    return agreement


# To it 4032 standings come with one fall; with any row late at most 4000.
LESS_WHEN_LATE = (line(1, 31), line(0, 41))
# To it 4050 standings come with one fall; 4000 with a row of the house 0 late, 4023 with one of the house 1.
LESS_WHEN_ONE_IS_LATE = (line(1, 26), line(0, 49))


class LateOnes(unittest.TestCase):

    def test_each(self):
        found = {"all": 0, "none": 0, "some": 0}
        for agreement, most in cases():
            expected = told_late_ones(agreement, most)
            told = returned(late_ones, agreement, most)
            self.assertTrue(same(told, expected), (told, expected))
            self.assertEqual(list(told), sorted(set(told)))
            rows = rows_in(agreement, False)
            if rows:
                found["none" if not told else "all" if len(told) == len(rows) else "some"] += 1
        self.assertGreater(min(found.values()), 20, found)

    def test_some(self):
        self.assertEqual(returned(late_ones, PLEDGE, 1), ((0, 0),))
        self.assertEqual(returned(late_ones, COIN, 1), ((0, 0), (0, 1)))
        self.assertEqual(returned(late_ones, COIN, 0), ((0, 0), (0, 1), (1, 0), (1, 1)))
        self.assertEqual(returned(late_ones, UNLIKE, 0), ())
        self.assertEqual(returned(late_ones, all_late(COIN), 1), ())

    def test_with_twins_and_without(self):
        found = {}
        for agreement, most in cases():
            key = (twins(agreement, most) is None, late_ones(agreement, most) != ())
            found[key] = found.get(key, 0) + 1
        self.assertGreater(min(found.values()), 1, found)
        self.assertEqual(len(found), 4)

    def test_too_many(self):
        self.assertEqual(raised(late_ones, full_reach(1), 0), TOO_MANY)
        self.assertEqual(raised(late_ones, CLASHING, 0), TOO_MANY)
        self.assertEqual(raised(late_ones, (LONE,) * 4, 2), TOO_MANY)
        self.assertEqual(raised(late_ones, longest(False), 3), TOO_MANY)
        self.assertEqual(raised(late_ones, full_reach(0), 1), TOO_MANY)
        self.assertEqual(returned(late_ones, full_reach(0), 0), tuple(rows_in(full_reach(0), False)))

    def test_each_row_is_late_where_too_many_come(self):
        for agreement in (longest(True), all_late(full_reach(1)), all_late((LONE,) * 4), all_late(CLASHING)):
            self.assertIsNone(agreement_error(agreement))
            for most in range(4):
                self.assertEqual(raised(reach, agreement, most), TOO_MANY)
                self.assertEqual(returned(late_ones, agreement, most), ())
            for house in (0, 3):
                other = with_late(agreement, house, 0, False)
                self.assertEqual(raised(late_ones, other, 0), TOO_MANY)

    def test_the_agreement_itself_is_not_looked_at(self):
        self.assertIsNone(agreement_error(LESS_WHEN_LATE))
        self.assertEqual(len(all_standings(LESS_WHEN_LATE, 1, 5000)), 4032)
        self.assertEqual(raised(twins, LESS_WHEN_LATE, 1), TOO_MANY)
        self.assertEqual(returned(late_ones, LESS_WHEN_LATE, 1), tuple(rows_in(LESS_WHEN_LATE, False)))
        self.assertEqual(len(reach(made_late(LESS_WHEN_LATE, 1, 5), 1)), 4000)

    def test_too_many_of_one_row_more_late(self):
        for house, k in rows_in(LESS_WHEN_ONE_IS_LATE, False):
            other = made_late(LESS_WHEN_ONE_IS_LATE, house, k)
            self.assertEqual(len(all_standings(other, 1, 5000)), 4000 if house == 0 else 4023)
        self.assertEqual(raised(late_ones, LESS_WHEN_ONE_IS_LATE, 1), TOO_MANY)
        self.assertEqual(len(returned(late_ones, LESS_WHEN_ONE_IS_LATE, 0)), 11)


class Latest(unittest.TestCase):

    def test_each(self):
        hanging = 0
        for agreement, most in cases():
            expected = told_latest(agreement, most)
            found = returned(latest, agreement, most)
            self.assertTrue(same(found, expected))
            self.assertIsNone(agreement_error(found))
            hanging += rows_in(found, True) != sorted(rows_in(agreement, True) + list(late_ones(agreement, most)))
        # Often a row may be late only with those that were made late ahead of it.
        self.assertGreater(hanging, 10)

    def test_order(self):
        """It goes through the rows once, by house, then by k: in another order, or twice, other rows become late."""
        found = {"backwards": 0, "twice": 0}
        for agreement, most in cases():
            once, back = returned(latest, agreement, most), agreement
            for house, k in reversed(rows_in(agreement, False)):
                if twins(made_late(back, house, k), most) is None:
                    back = made_late(back, house, k)
            found["backwards"] += back != once
            found["twice"] += late_ones(once, most) != ()
        self.assertGreater(min(found.values()), 1, found)

    def test_some(self):
        self.assertEqual(rows_in(returned(latest, PLEDGE, 1), True), [(0, 0)])
        self.assertEqual(returned(latest, COIN, 1), all_late(COIN))
        self.assertEqual(late_ones(latest(COIN, 1), 1), ())

    def test_nothing_can_be_made_late(self):
        for agreement in (UNLIKE, HASTY):
            for most in (0, 1):
                self.assertEqual(returned(latest, agreement, most), agreement)
        for agreement in (longest(True), all_late(full_reach(1)), all_late(CLASHING), all_late(COIN)):
            self.assertEqual(returned(latest, agreement, 1), agreement)

    def test_too_many(self):
        for agreement, most in ((full_reach(1), 0), (CLASHING, 0), ((LONE,) * 4, 2), (full_reach(0), 1)):
            self.assertEqual(raised(latest, agreement, most), TOO_MANY)
        self.assertEqual(returned(latest, full_reach(0), 0), all_late(full_reach(0)))

    def test_only_agreements_with_a_row_more_late_are_looked_at(self):
        self.assertEqual(raised(reach, LESS_WHEN_LATE, 1), TOO_MANY)
        self.assertEqual(returned(latest, LESS_WHEN_LATE, 1), all_late(LESS_WHEN_LATE))
        # When the turn of the house 1 comes the rows of the house 0 are late, so that fewer standings come.
        self.assertEqual(raised(late_ones, LESS_WHEN_ONE_IS_LATE, 1), TOO_MANY)
        self.assertEqual(returned(latest, LESS_WHEN_ONE_IS_LATE, 1), all_late(LESS_WHEN_ONE_IS_LATE))


class WhatHolds(unittest.TestCase):
    """[H4]"""

    def test_same_runs(self):
        """Runs with falls of agreements with unlike rows late, done side by side."""
        unlike = 0
        for seed, agreement in enumerate(REAL + tuple(drawn_agreements(60)) + (central(3), everyone(4), WILLING)):
            draw = Draw(seed)
            for turn in range(4):
                other = agreement
                for house, k in rows_in(agreement, False) + rows_in(agreement, True):
                    other = with_late(other, house, k, draw.below(2) == 0)
                unlike += self.check(agreement, other, drawn_run(agreement, seed + turn))
        self.assertGreater(unlike, 200)

    def check(self, agreement, other, deeds):
        """How many standings were unlike."""
        one, two, unlike, lost = begin(agreement), begin(other), 0, set()
        for deed in deeds:
            self.assertEqual(open_deeds(agreement, one), open_deeds(other, two))
            if deed[0] == "fall" and one[1][deed[1]]:
                lost.add(deed[1])
            one, two = after(agreement, one, deed), after(other, two, deed)
            self.assertEqual(one[1:], two[1:])
            for house in range(len(agreement)):
                if one[0][house] != two[0][house]:
                    self.assertTrue(one[1][house] or house in lost)
            unlike += one != two
        self.assertEqual(open_deeds(agreement, one), open_deeds(other, two))
        return unlike

    def test_rows_that_send_nothing(self):
        found = set()
        for agreement, most in cases():
            for house, k in rows_in(agreement, False):
                if not agreement[house][1][k][3]:
                    self.assertEqual(reach(made_late(agreement, house, k), most), reach(agreement, most))
                    expected = twins(agreement, most) is None
                    self.assertIs((house, k) in late_ones(agreement, most), expected)
                    found.add(expected)
        self.assertEqual(found, {True, False})

    def test_a_late_row_takes_twins_away_or_brings_a_clash(self):
        self.assertIsNotNone(twins(COIN, 1))
        self.assertIsNone(twins(made_late(COIN, 0, 0), 1))
        self.assertIsNone(clash(PLEDGE))
        self.assertIsNotNone(clash(made_late(PLEDGE, 1, 0)))

    def test_greater_numbers_of_falls(self):
        fewer = 0
        for agreement in SAMPLES:
            told = [set(late_ones(agreement, most)) for most in range(len(agreement))]
            for one, other in zip(told, told[1:]):
                self.assertLessEqual(other, one)
                fewer += other != one
        self.assertGreater(fewer, 5)

    def test_latest_has_no_twins(self):
        found = set()
        for agreement, most in cases():
            last, had = latest(agreement, most), twins(agreement, most) is not None
            could = late_ones(agreement, most) != ()
            if not had or could:
                self.assertIsNone(twins(last, most))
            if last != agreement:
                self.assertIsNone(twins(last, most))
            found.add((had, could, last == agreement))
            # What could not be late then cannot be late now: all rows were tried.
            if not had and not could:
                self.assertEqual(last, agreement)
        self.assertLessEqual({(True, True, False), (True, False, True), (False, True, False)}, found)

    def test_one_letter(self):
        """A row that sends one letter is in its onto state as soon as the letter is under way."""
        for agreement in (COIN, AGREED, PAIR):
            for house, k in rows_in(agreement, False):
                if len(agreement[house][1][k][3]) == 1:
                    other = made_late(agreement, house, k)
                    mine = {standing for standing in reach(agreement, 0) if standing[1][house] != (k, 0)}
                    theirs = {standing for standing in reach(other, 0) if standing[1][house] != (k, 0)}
                    self.assertEqual(mine, theirs)


if __name__ == "__main__":
    unittest.main()
