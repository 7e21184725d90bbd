import copy
import unittest

from leftstanding.books import agreement_error, kind, with_late
from samples import AGREED, AGREEMENTS, COIN, FULL, kept, same


def all_rows():
    """Each row of each sample: the agreement, the house, the place, the row."""
    return [
        (agreement, house, k, row)
        for agreement in AGREEMENTS
        for house, (_, rows) in enumerate(agreement)
        for k, row in enumerate(rows)
    ]


class Kind(unittest.TestCase):

    def test_each_state_of_each_house(self):
        for agreement in AGREEMENTS:
            for house, (kinds, _) in enumerate(agreement):
                for state, expected in enumerate(kinds):
                    self.assertTrue(same(kept(kind, agreement, house, state), expected))
                    self.assertEqual(kind(agreement=agreement, house=house, state=state), expected)
                    self.assertEqual(kind(agreement, state=state, house=house), expected)

    def test_some(self):
        self.assertEqual([kind(COIN, 0, state) for state in range(3)], ["yes", "done", "off"])
        self.assertEqual([kind(AGREED, 1, state) for state in range(4)], ["open", "yes", "done", "off"])
        self.assertEqual([kind(FULL, house, 0) for house in range(4)], ["open", "yes", "open", "yes"])
        self.assertEqual([kind(FULL, 2, state) for state in (4, 5, 6, 7)], ["off", "done", "yes", "done"])
        self.assertEqual([kind(FULL, 1, 1), kind(FULL, 3, 1)], ["off", "done"])


class WithLate(unittest.TestCase):

    def test_each_row(self):
        for agreement, house, k, row in all_rows():
            for late in (True, False):
                found = kept(with_late, agreement, house, k, late)
                self.assertIsNone(agreement_error(found))
                self.assertIs(found[house][1][k][4], late)
                # Put back by lists, so that nothing but this one item may be another one.
                rows = list(found[house][1])
                rows[k] = row[:4] + (row[4],)
                books = list(found)
                books[house] = (found[house][0], tuple(rows))
                self.assertTrue(same(found[house][1][k][:4], row[:4]))
                self.assertTrue(same(tuple(books), agreement))

    def test_row_that_has_this_item_already(self):
        for agreement, house, k, row in all_rows():
            self.assertTrue(same(with_late(agreement, house, k, row[4]), agreement))
            other = with_late(agreement, house, k, not row[4])
            self.assertFalse(same(other, agreement))
            self.assertTrue(same(with_late(other, house, k, row[4]), agreement))

    def test_by_name(self):
        for agreement, house, k, _ in all_rows():
            for late in (True, False):
                expected = with_late(agreement, house, k, late)
                self.assertTrue(same(with_late(agreement=agreement, house=house, k=k, late=late), expected))
                self.assertTrue(same(with_late(agreement, house, late=late, k=k), expected))

    def test_one_row_behind_another(self):
        agreement = COIN
        for house in (0, 1):
            for k in (0, 1):
                agreement = with_late(agreement, house, k, True)
        expected = (
            (COIN[0][0], ((0, (), 1, ((1, "do"),), True), (0, (), 2, ((1, "off"),), True))),
            (COIN[1][0], ((0, ((0, "do"),), 1, (), True), (0, ((0, "off"),), 2, (), True))),
        )
        self.assertTrue(same(agreement, expected))

    def test_what_was_handed_in_stays(self):
        for agreement, house, k, row in all_rows():
            before = copy.deepcopy(agreement)
            with_late(agreement, house, k, not row[4])
            self.assertTrue(same(agreement, before))


if __name__ == "__main__":
    unittest.main()
