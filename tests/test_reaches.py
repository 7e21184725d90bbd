import unittest

from leftstanding.books import agreement_error
from leftstanding.moving import led, open_deeds
from leftstanding.reaches import clash, reach, road, stuck
from leftstanding.standings import begin, standing_error
from drawn import small_ones
from model import Run, all_standings, kinds_in, lets_done, needs_done
from samples import (
    AGREED, COIN, DEAF, FULL, HASTY, LATE, LONE, PAIR, READY, TRIO, UNLIKE, WILLING, any_values, central, everyone,
    full_reach, longest, raised, returned, same,
)

TOO_MANY = ("TooMany", {"limit": 4000})
SAMPLES = small_ones(90) + (FULL, TRIO)


def wide():
    """Four houses with twelve rows each that can all begin at once, of six letters each."""
    books = []
    for house in range(4):
        others = [other for other in range(4) if other != house]
        sends = [tuple((other, word + sign) for sign in "xy" for other in others) for word in "abcdefghijkl"]
        books.append((("open",) * 8, tuple((0, (), 1 + k % 7, sends[k], False) for k in range(12))))
    return tuple(books)


def without_falls(agreement):
    """The standings that come without falls, each with its road and the deeds that are no falls."""
    for standing, way in all_standings(agreement, 0).items():
        yield standing, way, [deed for deed in Run(agreement, standing).deeds() if deed[0] != "fall"]


def first(ways):
    return next(iter(ways), None)


class Reach(unittest.TestCase):

    def test_order(self):
        for agreement in SAMPLES:
            for most in range(len(agreement)):
                expected = tuple(all_standings(agreement, most))
                found = returned(reach, agreement, most)
                self.assertTrue(same(found, expected), (agreement, most))
                self.assertEqual(found[0], begin(agreement))
                self.assertEqual(len(set(found)), len(found))

    def test_larger_ones(self):
        for agreement, many in (
                (central(3), (82, 328, 571)), (everyone(3), (420, 1680, 2937)), (central(4), (623, 3115)),
                ((LONE,) * 2, (64, 192)), ((LONE,) * 3, (512, 2048, 3584))):
            self.assertIsNone(agreement_error(agreement))
            for most, expected in enumerate(many):
                found = returned(reach, agreement, most)
                self.assertEqual(len(found), expected)
                self.assertEqual(found, tuple(all_standings(agreement, most)))

    def test_standings(self):
        for agreement in SAMPLES:
            for standing in reach(agreement, len(agreement) - 1):
                self.assertIsNone(standing_error(agreement, standing))

    def test_too_many(self):
        for more in (0, 1):
            agreement = full_reach(more)
            self.assertIsNone(agreement_error(agreement))
            self.assertEqual(len(all_standings(agreement, 0, 5000)), 4000 + more)
        found = returned(reach, full_reach(0), 0)
        self.assertEqual(found, tuple(all_standings(full_reach(0), 0)))
        self.assertEqual(raised(reach, full_reach(1), 0), TOO_MANY)
        for most in (1, 2, 3):
            for more in (0, 1):
                self.assertEqual(raised(reach, full_reach(more), most), TOO_MANY)
        for most in range(4):
            for agreement in ((LONE,) * 4, everyone(4), longest(True), longest(False)):
                self.assertEqual(raised(reach, agreement, most), TOO_MANY)

    def test_twelve_rows_of_four_houses_at_once(self):
        self.assertIsNone(agreement_error(wide()))
        self.assertEqual(len(open_deeds(wide(), begin(wide()))), 52)
        for most in range(4):
            self.assertEqual(raised(reach, wide(), most), TOO_MANY)


class Road(unittest.TestCase):

    def test_each_standing(self):
        for agreement in SAMPLES[:40] + (FULL, TRIO):
            last = len(agreement) - 1
            for most in range(last + 1):
                ways = all_standings(agreement, most)
                for standing in list(all_standings(agreement, last))[::7]:
                    self.assertTrue(same(returned(road, agreement, most, standing), ways.get(standing)))

    def test_each_standing_of_some(self):
        for agreement in (COIN, AGREED, PAIR, LATE, HASTY):
            for most in (0, 1):
                for standing, way in all_standings(agreement, most).items():
                    self.assertTrue(same(returned(road, agreement, most, standing), way))
                    self.assertEqual(led(agreement, road(agreement, most, standing)), standing)
                self.assertEqual(returned(road, agreement, most, begin(agreement)), ())

    def test_standings_that_do_not_come(self):
        for standing in (
                ((2, 0), ((), ()), (), ()), ((0, 0), ((), ()), ((0, 1, "ask"),), ()), ((1, 1), ((), ()), (), ()),
                ((0, 0), ((), ()), ((1, 0, "zz"),), ()), ((0, 0), ((), ()), (), (0, 1)), ((3, 0), ((), ()), (), ())):
            for most in (0, 1):
                self.assertIsNone(standing_error(PAIR, standing))
                self.assertEqual(returned(road, PAIR, most, standing), all_standings(PAIR, most).get(standing))
                self.assertEqual(returned(road, PAIR, most, standing) is None, standing not in reach(PAIR, most))
        self.assertIsNone(road(PAIR, 1, ((0, 0), ((), ()), (), (0, 1))))
        self.assertIsNone(road(PAIR, 0, ((0, 0), ((), ()), (), (0,))))
        self.assertEqual(road(PAIR, 1, ((0, 0), ((), ()), (), (0,))), (("fall", 0),))

    def test_too_many(self):
        agreement = full_reach(1)
        for standing in (begin(agreement), reach(full_reach(0), 0)[1], begin(agreement)[:3] + ((0, 1, 2, 3),)):
            for most in range(4):
                self.assertEqual(raised(road, agreement, most, standing), TOO_MANY)
        ways = all_standings(full_reach(0), 0)
        for standing in list(ways)[::500] + list(ways)[-1:]:
            self.assertEqual(road(full_reach(0), 0, standing), ways[standing])
            self.assertEqual(raised(road, full_reach(0), 1, standing), TOO_MANY)


class ClashAndStuck(unittest.TestCase):

    def test_clash(self):
        with_one = 0
        for agreement in SAMPLES + (central(3), everyone(3), full_reach(0)):
            expected = first(way for standing, way, _ in without_falls(agreement)
                             if needs_done(agreement, standing) and not lets_done(agreement, standing))
            self.assertTrue(same(returned(clash, agreement), expected))
            with_one += expected is not None
        self.assertGreater(with_one, 15)
        self.assertLess(with_one, len(SAMPLES) - 15)

    def test_clash_of_some(self):
        for agreement in (COIN, AGREED, PAIR, LATE, READY, WILLING, DEAF):
            self.assertIsNone(clash(agreement))
        self.assertEqual(clash(UNLIKE), (("row", 0, 0), ("row", 1, 0)))
        self.assertEqual(clash(HASTY), (("row", 0, 0), ("send", 0), ("row", 0, 1)))

    def test_done_beside_each_kind(self):
        decides = (("yes", "done"), ((0, (), 1, (), False),))
        for kinds, rows, is_right in (
                (("yes",), (), True), (("open",), (), False), (("yes", "off"), (), True), (("open", "yes"), (), False),
                (("yes", "off"), ((0, (), 1, (), False),), False), (("yes", "yes"), ((0, (), 1, (), False),), True),
                (("yes", "done"), ((0, (), 1, (), False),), True), (("open", "off"), ((0, (), 1, (), False),), False)):
            for agreement in ((decides, (kinds, rows)), ((kinds, rows), decides), (decides, decides, (kinds, rows))):
                self.assertEqual(returned(clash, agreement) is None, is_right, agreement)

    def test_stuck(self):
        with_one = 0
        for agreement in SAMPLES + (central(3), everyone(3), full_reach(0)):
            expected = first(way for standing, way, deeds in without_falls(agreement)
                             if not deeds and set(kinds_in(agreement, standing)) & {"open", "yes"})
            self.assertTrue(same(returned(stuck, agreement), expected))
            with_one += expected is not None
        self.assertGreater(with_one, 15)
        self.assertLess(with_one, len(SAMPLES) - 10)

    def test_stuck_of_some(self):
        for agreement in (COIN, AGREED, PAIR, LATE, READY, central(3), everyone(3), UNLIKE):
            self.assertIsNone(stuck(agreement))
        self.assertEqual(stuck(((("open",), ()), (("yes",), ()))), ())
        self.assertEqual(stuck(DEAF), (("row", 0, 0), ("send", 0), ("row", 1, 1), ("send", 1)))
        self.assertEqual(stuck((LONE, UNLIKE[0])), tuple([("row", 0, k) for k in range(7)] + [("row", 1, 0)]))

    def test_too_many(self):
        for agreement in (full_reach(1), (LONE,) * 4, wide(), everyone(4)):
            self.assertEqual(raised(clash, agreement), TOO_MANY)
            self.assertEqual(raised(stuck, agreement), TOO_MANY)
        # With falls too many would come, without them they do not.
        for agreement in (full_reach(0), central(4)):
            self.assertEqual(raised(reach, agreement, 3), TOO_MANY)
            self.assertIsNone(returned(clash, agreement))
        self.assertIsNone(returned(stuck, central(4)))
        self.assertEqual(led(full_reach(0), stuck(full_reach(0))), reach(full_reach(0), 0)[-1])


class WhatHolds(unittest.TestCase):
    """[C4]"""

    def test_fewer_falls(self):
        for agreement in SAMPLES + (central(3), everyone(3)):
            whole = reach(agreement, len(agreement) - 1)
            for most in range(len(agreement)):
                fewer = [standing for standing in whole if len(standing[3]) <= most]
                self.assertEqual(sorted(reach(agreement, most)), sorted(fewer))

    def test_roads_are_shortest_and_least(self):
        for agreement in (COIN, AGREED, PAIR, HASTY, UNLIKE) + SAMPLES[20:30]:
            for most in range(len(agreement)):
                best = {}
                self.go_on(agreement, most, (), best, 4)
                for standing, way in best.items():
                    self.assertEqual(road(agreement, most, standing), way[1])

    def go_on(self, agreement, most, deeds, best, further):
        """All rows of deeds up to a length, each one tried: the first one to a standing, by length and as tuples."""
        run = Run(agreement)
        for deed in deeds:
            run.do(deed)
        standing = run.standing()
        if len(standing[3]) <= most:
            best[standing] = min(best.get(standing, (99, ())), (len(deeds), deeds))
            for deed in run.deeds() if further else ():
                self.go_on(agreement, most, deeds + (deed,), best, further - 1)

    def test_roads_lead_there(self):
        for agreement in SAMPLES[:30]:
            last = len(agreement) - 1
            numbers = {}
            for number, standing in enumerate(reach(agreement, last)[:60]):
                way = road(agreement, last, standing)
                self.assertEqual(led(agreement, way), standing)
                numbers[standing] = number
                if way:
                    self.assertLess(numbers[led(agreement, way[:-1])], number)

    def test_right_ones_are_right_with_falls(self):
        right = 0
        for agreement in SAMPLES + (central(3), everyone(3)):
            if clash(agreement) is None:
                for standing in reach(agreement, len(agreement) - 1):
                    if needs_done(agreement, standing):
                        self.assertTrue(lets_done(agreement, standing))
                        right += 1
        self.assertGreater(right, 500)

    def test_not_stuck(self):
        for agreement in SAMPLES:
            if stuck(agreement) is None:
                for standing in reach(agreement, 0):
                    if all(deed[0] == "fall" for deed in open_deeds(agreement, standing)):
                        self.assertLessEqual(set(kinds_in(agreement, standing)), {"done", "off"})


if __name__ == "__main__":
    unittest.main()
