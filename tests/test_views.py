import unittest

from leftstanding.reaches import reach
from leftstanding.standings import standing_error
from leftstanding.views import may, must, view
from drawn import small_ones
from model import kinds_in, lets_done, needs_done, seen
from samples import AGREED, FULL, KINDS, PAIR, SPREAD, TRIO, raised, returned, same

SAMPLES = small_ones(60) + (FULL, TRIO)
# Each kind is at a place of its own in each house, so that all of them can be met.
EACH = ((KINDS, ()), (("yes", "open", "off", "done"), ()), (("open", "off", "yes", "done"), ()))
BUSY = tuple((("yes",) * 3, (
    (0, (), 1, tuple((other, word) for other in range(4) if other != house for word in ("a", "b")), house % 2 == 0),
)) for house in range(4))


class Views(unittest.TestCase):

    def check(self, agreement, standing):
        if len(standing[3]) == len(agreement):
            self.assertEqual(raised(view, agreement, standing), ("Unfit", {}))
        else:
            self.assertTrue(same(returned(view, agreement, standing), seen(standing)))
        self.assertIs(returned(must, agreement, standing), needs_done(agreement, standing))
        self.assertIs(returned(may, agreement, standing), lets_done(agreement, standing))

    def test_standings_that_come(self):
        for agreement in SAMPLES:
            for standing in reach(agreement, len(agreement) - 1)[::5]:
                self.check(agreement, standing)

    def test_standings_that_never_come(self):
        letters = tuple(sorted((a, b, word) for a in range(4) for b in range(4) if a != b for word in ("a", "zz")))
        lots = [tuple(house for house in range(4) if lot >> house & 1) for lot in range(16)]
        for fallen in lots:
            for way in (letters, letters[::2], letters[1::3], ()):
                for start in range(3):
                    states = tuple((0 if house % 2 == 0 else 1) if house not in fallen else (house + start) % 3
                                   for house in range(4))
                    doing = tuple(() if house in fallen else (0, house + start) for house in range(4))
                    doing = tuple(item if item == () or item[1] < 6 else () for item in doing)
                    standing = (states, doing, way, fallen)
                    self.assertIsNone(standing_error(BUSY, standing))
                    self.check(BUSY, standing)

    def test_some(self):
        standing = ((0, 2, 1), ((), (), ()), ((0, 1, "a"), (0, 2, "b"), (1, 0, "c"), (2, 1, "d")), (1,))
        expected = ((0, 2), (0, 1), ((), ()), ((0, 2, "b"), (1, 0, "c")))
        self.assertTrue(same(returned(view, SPREAD, standing), expected))
        standing = ((1, 0), ((0, 0), ()), ((1, 0, "no"),), ())
        self.assertTrue(same(returned(view, PAIR, standing), ((0, 1), (1, 0), ((0, 0), ()), ((1, 0, "no"),))))
        standing = ((1, 1), ((), (0, 0)), ((0, 1, "ask"), (1, 0, "x")), (0,))
        self.assertTrue(same(returned(view, AGREED, standing), ((1,), (1,), ((0, 0),), ((0, 1, "ask"),))))

    def test_nobody_left(self):
        for agreement in (PAIR, TRIO, FULL, EACH):
            houses = len(agreement)
            standing = ((0,) * houses, ((),) * houses, (), tuple(range(houses)))
            self.check(agreement, standing)
            for house in range(houses):
                fallen = tuple(other for other in range(houses) if other != house)
                self.assertEqual(returned(view, agreement, standing[:3] + (fallen,)), ((house,), (0,), ((),), ()))

    def test_must_and_may_of_each_kind(self):
        for states in [(a, b, c) for a in range(4) for b in range(4) for c in range(4)]:
            for fallen in ((), (0,), (1, 2), (0, 1, 2)):
                standing = (states, ((),) * 3, ((0, 1, "a"),), fallen)
                kinds = kinds_in(EACH, standing)
                self.assertIs(returned(must, EACH, standing), "done" in kinds)
                self.assertIs(returned(may, EACH, standing), "open" not in kinds and "off" not in kinds)
                self.check(EACH, standing)


if __name__ == "__main__":
    unittest.main()
