import functools
import itertools
import unittest

from leftstanding.books import agreement_error
from leftstanding.falls import bears, blocks, least_blocks
from leftstanding.reaches import clash, reach
from leftstanding.twins import twins
from drawn import drawn_agreement, drawn_variant, small_ones
from model import first_twins, lets_done, lookalikes, needs_done
from samples import (
    AGREED, CLASHING, COIN, DEAF, HASTY, LATE, LONE, PAIR, READY, SPREAD, SPREAD_LATE, UNLIKE, WILLING, central,
    everyone, full_reach, longest, raised, returned, same,
)

TOO_MANY = ("TooMany", {"limit": 4000})
STEPS = ("yes", "yes", "yes", "done", "off")


def passing(house, onto):
    """A book that hears what was thrown, and passes it on."""
    return (STEPS[:3], (
        (0, ((house, "do"),), 1, ((onto, "do"),), False),
        (0, ((house, "off"),), 2, ((onto, "off"),), False),
    ))


# What was thrown is known to 0, 1 and 2 before 0 ends so; 3 is told nothing.
THREE_KNOW = (
    (STEPS, (
        (0, (), 1, ((1, "do"),), False),
        (0, (), 2, ((1, "off"),), False),
        (1, ((2, "do"),), 3, (), False),
        (2, ((2, "off"),), 4, (), False),
    )),
    passing(0, 2),
    passing(1, 0),
    (("yes",), ()),
)
# The house 0 throws by itself, or lets 1 throw, which asks 2 ahead of ending so; 3 is told nothing.
GIVING = (
    (("yes", "yes", "done", "off"), (
        (0, (), 1, ((1, "go"),), False), (0, (), 2, (), False), (0, (), 3, (), False),
    )),
    (STEPS, (
        (0, ((0, "go"),), 1, ((2, "do"),), False),
        (0, ((0, "go"),), 2, ((2, "off"),), False),
        (1, ((2, "do"),), 3, (), False),
        (2, ((2, "off"),), 4, (), False),
    )),
    passing(1, 1),
    (("yes",), ()),
)
DRAWN = tuple(drawn_variant(seed) for seed in (14, 91, 1247, 2247, 2325, 2705)) + tuple(
    drawn_agreement(seed, 3 + seed % 2, takes=1, words=("a",)) for seed in (14, 91, 1247, 2247, 2325, 2705))
SAMPLES = small_ones(90) + DRAWN + (THREE_KNOW, GIVING)
# They clash without falls, and just not too many standings come with falls.
CLASHING_LATER = UNLIKE + (LONE, LONE)
# Here too many come when three houses fall.
CLASHING_MORE = UNLIKE + (LONE, (LONE[0], LONE[1][:6] + ((6, (), 7, ((0, "a"),), False),)))


def lots(agreement):
    """All lots, ascending."""
    houses = range(len(agreement))
    return sorted(lot for many in houses for lot in itertools.combinations(houses, many))


@functools.lru_cache(maxsize=None)
def told_blocks(agreement, lot):
    """Whether the lot blocks, worked out once more: each standing is held against each one of its view."""
    return any(
        one[3] == lot == other[3] and needs_done(agreement, one) and not lets_done(agreement, other)
        for standings in lookalikes(agreement, len(agreement) - 1).values() for one in standings for other in standings
    )


def told_least(agreement):
    blocking = [lot for lot in lots(agreement) if told_blocks(agreement, lot)]
    return tuple(lot for lot in blocking if not any(set(other) < set(lot) for other in blocking))


def told_bears(agreement):
    """Twins of each number of falls, one number after the other."""
    for most in range(len(agreement)):
        if first_twins(agreement, most):
            return most - 1
    return len(agreement) - 1


class Blocks(unittest.TestCase):

    def test_each_lot(self):
        found = {True: 0, False: 0}
        for agreement in SAMPLES + (central(3), everyone(3)):
            for lot in lots(agreement):
                expected = told_blocks(agreement, lot)
                self.assertIs(returned(blocks, agreement, lot), expected, (agreement, lot))
                found[expected] += 1
        self.assertGreater(found[True], 100)
        self.assertGreater(found[False], 100)

    def test_some(self):
        for agreement, blocking in (
                (COIN, [(0,)]), (AGREED, []), (PAIR, []), (LATE, []), (READY, []), (DEAF, []), (WILLING, []),
                (UNLIKE, [(), (0,), (1,)]), (HASTY, [(), (0,), (1,)]), (SPREAD, [(0,), (0, 1), (0, 2)]),
                (SPREAD_LATE, [(0, 1)]), (THREE_KNOW, [(0, 1, 2)]),
                (GIVING, [(0,), (0, 1), (0, 1, 2), (0, 1, 3), (0, 2), (0, 2, 3), (0, 3), (1, 2), (1, 2, 3)])):
            self.assertEqual([lot for lot in lots(agreement) if returned(blocks, agreement, lot)], blocking)

    def test_one_standing_taken_for_both(self):
        alone = (UNLIKE[0], (("yes",), ()), (("open",), ()))
        for lot in lots(alone):
            self.assertIs(returned(blocks, alone, lot), True)

    def test_too_many(self):
        for agreement, fine in ((full_reach(0), 0), (full_reach(1), -1), (central(4), 1), (everyone(4), -1),
                                (CLASHING, -1), (longest(True), -1), ((LONE,) * 3, 2), (CLASHING_LATER, 3),
                                (CLASHING_MORE, 2)):
            for lot in [tuple(range(len(agreement)))[1:many + 1] for many in range(len(agreement))]:
                if len(lot) <= fine:
                    self.assertIs(returned(blocks, agreement, lot), agreement[:2] == UNLIKE)
                    reach(agreement, len(lot))
                else:
                    self.assertEqual(raised(blocks, agreement, lot), TOO_MANY)
                    self.assertEqual(raised(reach, agreement, len(lot)), TOO_MANY)


class LeastBlocks(unittest.TestCase):

    def test_each(self):
        sizes = {}
        for agreement in SAMPLES + (central(3), everyone(3)):
            expected = told_least(agreement)
            found = returned(least_blocks, agreement)
            self.assertTrue(same(found, expected), (found, expected))
            self.assertEqual(list(found), sorted(set(found)))
            for lot in found:
                self.assertTrue(told_blocks(agreement, lot))
                for other in lots(agreement):
                    if set(other) < set(lot):
                        self.assertFalse(told_blocks(agreement, other))
                sizes[len(lot)] = sizes.get(len(lot), 0) + 1
        for many in range(4):
            self.assertGreater(sizes[many], 0, many)

    def test_some(self):
        for agreement in (UNLIKE, HASTY):
            self.assertEqual(returned(least_blocks, agreement), ((),))
        for agreement in (AGREED, PAIR, LATE, READY, WILLING):
            self.assertEqual(returned(least_blocks, agreement), ())
        self.assertEqual(returned(least_blocks, COIN), ((0,),))
        self.assertEqual(returned(least_blocks, SPREAD_LATE), ((0, 1),))
        self.assertEqual(returned(least_blocks, GIVING), ((0,), (1, 2)))

    def test_three_of_four_houses(self):
        self.assertIsNone(agreement_error(THREE_KNOW))
        self.assertEqual(returned(least_blocks, THREE_KNOW), ((0, 1, 2),))
        self.assertEqual(returned(bears, THREE_KNOW), 2)


class Bears(unittest.TestCase):

    def test_each(self):
        found = set()
        for agreement in SAMPLES + (central(3), everyone(3)):
            expected = told_bears(agreement)
            self.assertTrue(same(returned(bears, agreement), expected))
            least = [len(lot) for lot in told_least(agreement)]
            self.assertEqual(expected, min(least) - 1 if least else len(agreement) - 1)
            found.add((len(agreement), expected))
        for own in ((2, -1), (2, 0), (2, 1), (3, -1), (3, 0), (3, 1), (3, 2), (4, -1), (4, 2), (4, 3)):
            self.assertIn(own, found)

    def test_too_many(self):
        for agreement in (full_reach(0), full_reach(1), central(4), everyone(4), CLASHING, (LONE,) * 4):
            self.assertEqual(raised(reach, agreement, 3), TOO_MANY)
            self.assertEqual(raised(least_blocks, agreement), TOO_MANY)
            self.assertEqual(raised(bears, agreement), TOO_MANY)

    def test_too_many_though_it_is_told_by_fewer_falls(self):
        self.assertIsNone(agreement_error(CLASHING_MORE))
        self.assertIsNotNone(clash(CLASHING_MORE))
        self.assertIs(blocks(CLASHING_MORE, ()), True)
        self.assertIsNotNone(twins(CLASHING_MORE, 0))
        self.assertEqual(len(reach(CLASHING_MORE, 2)), 3168)
        self.assertEqual(raised(reach, CLASHING_MORE, 3), TOO_MANY)
        self.assertEqual(raised(least_blocks, CLASHING_MORE), TOO_MANY)
        self.assertEqual(raised(bears, CLASHING_MORE), TOO_MANY)
        # With a few standings less they are told.
        self.assertEqual(returned(least_blocks, CLASHING_LATER), ((),))
        self.assertEqual(returned(bears, CLASHING_LATER), -1)
        self.assertEqual(returned(least_blocks, (LONE,) * 3), ())
        self.assertEqual(returned(bears, (LONE,) * 3), 2)


class WhatHolds(unittest.TestCase):
    """[F3]"""

    def test_greater_lots(self):
        for agreement in SAMPLES + (central(3), everyone(3)):
            least = least_blocks(agreement)
            found = {lot: blocks(agreement, lot) for lot in lots(agreement)}
            for lot in found:
                self.assertIs(found[lot], any(set(one) <= set(lot) for one in least))
                for other in found:
                    self.assertTrue(found[other] or not found[lot] or not set(lot) <= set(other))

    def test_twins(self):
        for agreement in SAMPLES + (central(3), everyone(3)):
            many = bears(agreement)
            for most in range(len(agreement)):
                self.assertIs(twins(agreement, most) is None, most <= many)
                blocking = [lot for lot in lots(agreement) if len(lot) <= most and blocks(agreement, lot)]
                self.assertIs(blocking == [], most <= many)

    def test_clash(self):
        for agreement in SAMPLES + (central(3), everyone(3)):
            self.assertIs(blocks(agreement, ()), clash(agreement) is not None)
            if blocks(agreement, ()):
                self.assertEqual([blocks(agreement, lot) for lot in lots(agreement)], [True] * len(lots(agreement)))
                self.assertEqual(least_blocks(agreement), ((),))


if __name__ == "__main__":
    unittest.main()
