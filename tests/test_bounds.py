import unittest

from leftstanding import bounds


class Bounds(unittest.TestCase):

    def test_each(self):
        told = {
            "MAX_HOUSES": 4,
            "MAX_STATES": 8,
            "MAX_ROWS": 12,
            "MAX_TAKES": 4,
            "MAX_SENDS": 6,
            "MAX_SIGNS": 6,
            "MAX_DEEDS": 200,
            "MAX_STANDINGS": 4000,
            "MAX_EDITS": 60,
        }
        for name, number in told.items():
            with self.subTest(name=name):
                self.assertEqual(getattr(bounds, name), number)
                self.assertIs(getattr(bounds, name).__class__, int)


if __name__ == "__main__":
    unittest.main()
