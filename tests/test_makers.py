import unittest

import samples
from leftstanding.books import agreement_error
from leftstanding.costs import quickest, spent
from leftstanding.falls import bears, blocks
from leftstanding.makers import central, central_three, chain, everyone
from leftstanding.reaches import clash, reach, stuck
from leftstanding.texts import agreement_text
from samples import outcome, returned, same

TOO_MANY = ("raises", "TooMany", {"limit": 4000})
SIZES = (2, 3, 4)
MAKERS = (central, central_three, everyone, chain)
OTHERS = {
    central: "row 0 1 <0.ask >0.yes;row 0 3 <0.ask >0.no;row 0 3 <0.off;row 1 2 <0.done;row 1 3 <0.off",
    central_three: "row 0 1 <0.ask >0.yes;row 0 4 <0.ask >0.no;row 0 4 <0.off;row 1 2 <0.ready >0.got;"
                   "row 1 4 <0.off;row 2 3 <0.done",
}
ZERO = {
    (central, 2): "row 0 1 >1.ask;row 0 3 >1.off;row 1 2 <1.yes >1.done;row 1 3 <1.no >1.off",
    (central, 3): "row 0 1 >1.ask >2.ask;row 0 3 >1.off >2.off;row 1 2 <1.yes <2.yes >1.done >2.done;"
                  "row 1 3 <1.no >1.off >2.off;row 1 3 <2.no >1.off >2.off",
    (central, 4): "row 0 1 >1.ask >2.ask >3.ask;row 0 3 >1.off >2.off >3.off;"
                  "row 1 2 <1.yes <2.yes <3.yes >1.done >2.done >3.done;row 1 3 <1.no >1.off >2.off >3.off;"
                  "row 1 3 <2.no >1.off >2.off >3.off;row 1 3 <3.no >1.off >2.off >3.off",
    (central_three, 2): "row 0 1 >1.ask;row 0 4 >1.off;row 1 2 <1.yes >1.ready;row 1 4 <1.no >1.off;"
                        "row 2 3 <1.got >1.done",
    (central_three, 3): "row 0 1 >1.ask >2.ask;row 0 4 >1.off >2.off;row 1 2 <1.yes <2.yes >1.ready >2.ready;"
                        "row 1 4 <1.no >1.off >2.off;row 1 4 <2.no >1.off >2.off;"
                        "row 2 3 <1.got <2.got >1.done >2.done",
    (central_three, 4): "row 0 1 >1.ask >2.ask >3.ask;row 0 4 >1.off >2.off >3.off;"
                        "row 1 2 <1.yes <2.yes <3.yes >1.ready >2.ready >3.ready;row 1 4 <1.no >1.off >2.off >3.off;"
                        "row 1 4 <2.no >1.off >2.off >3.off;row 1 4 <3.no >1.off >2.off >3.off;"
                        "row 2 3 <1.got <2.got <3.got >1.done >2.done >3.done",
}
EACH = {
    2: ("row 0 1 >1.yes;row 0 3 >1.no;row 1 2 <1.yes;row 1 3 <1.no",
        "row 0 1 >0.yes;row 0 3 >0.no;row 1 2 <0.yes;row 1 3 <0.no"),
    3: ("row 0 1 >1.yes >2.yes;row 0 3 >1.no >2.no;row 1 2 <1.yes <2.yes;row 1 3 <1.no;row 1 3 <2.no",
        "row 0 1 >0.yes >2.yes;row 0 3 >0.no >2.no;row 1 2 <0.yes <2.yes;row 1 3 <0.no;row 1 3 <2.no",
        "row 0 1 >0.yes >1.yes;row 0 3 >0.no >1.no;row 1 2 <0.yes <1.yes;row 1 3 <0.no;row 1 3 <1.no"),
    4: ("row 0 1 >1.yes >2.yes >3.yes;row 0 3 >1.no >2.no >3.no;row 1 2 <1.yes <2.yes <3.yes;row 1 3 <1.no;"
        "row 1 3 <2.no;row 1 3 <3.no",
        "row 0 1 >0.yes >2.yes >3.yes;row 0 3 >0.no >2.no >3.no;row 1 2 <0.yes <2.yes <3.yes;row 1 3 <0.no;"
        "row 1 3 <2.no;row 1 3 <3.no",
        "row 0 1 >0.yes >1.yes >3.yes;row 0 3 >0.no >1.no >3.no;row 1 2 <0.yes <1.yes <3.yes;row 1 3 <0.no;"
        "row 1 3 <1.no;row 1 3 <3.no",
        "row 0 1 >0.yes >1.yes >2.yes;row 0 3 >0.no >1.no >2.no;row 1 2 <0.yes <1.yes <2.yes;row 1 3 <0.no;"
        "row 1 3 <1.no;row 1 3 <2.no"),
}
FIRST = "row 0 1 >1.yes;row 0 3 >1.off;row 1 2 <1.done;row 1 3 <1.off"
LINE = {
    2: (FIRST, "row 0 1 <0.yes;row 0 3 <0.yes >0.off;row 0 3 <0.off;row 1 2 >0.done"),
    3: (FIRST,
        "row 0 1 <0.yes >2.yes;row 0 3 <0.yes >0.off >2.off;row 0 3 <0.off >2.off;row 1 2 <2.done >0.done;"
        "row 1 3 <2.off >0.off",
        "row 0 1 <1.yes;row 0 3 <1.yes >1.off;row 0 3 <1.off;row 1 2 >1.done"),
    4: (FIRST,
        "row 0 1 <0.yes >2.yes;row 0 3 <0.yes >0.off >2.off;row 0 3 <0.off >2.off;row 1 2 <2.done >0.done;"
        "row 1 3 <2.off >0.off",
        "row 0 1 <1.yes >3.yes;row 0 3 <1.yes >1.off >3.off;row 0 3 <1.off >3.off;row 1 2 <3.done >1.done;"
        "row 1 3 <3.off >1.off",
        "row 0 1 <2.yes;row 0 3 <2.yes >2.off;row 0 3 <2.off;row 1 2 >2.done"),
}


def told_text(maker, n):
    kinds = "house open yes yes done off" if maker == central_three else "house open yes done off"
    if maker == everyone:
        books = EACH[n]
    elif maker == chain:
        books = LINE[n]
    else:
        books = (ZERO[maker, n],) + (OTHERS[maker],) * (n - 1)
    return ";".join(f"{kinds};{book}" for book in books)


def within(call, *values):
    """What the call returns, None if too many standings come."""
    found = outcome(call, values, {})
    if found == TOO_MANY:
        return None
    assert found[0] == "returns", found
    return (found[1],)


class Makers(unittest.TestCase):

    def test_row_by_row(self):
        for maker in MAKERS:
            for n in SIZES:
                found = returned(maker, n)
                self.assertEqual(agreement_text(found).split("\n"), told_text(maker, n).split(";"))
                self.assertIsNone(agreement_error(found))
                self.assertEqual(len(found), n)

    def test_those_of_the_tests(self):
        for n in SIZES:
            self.assertTrue(same(central(n), samples.central(n)))
            self.assertTrue(same(everyone(n), samples.everyone(n)))

    def test_no_row_is_late(self):
        for maker in MAKERS:
            for n in SIZES:
                for _, rows in maker(n):
                    self.assertEqual({row[4] for row in rows}, {False})


class WhatHolds(unittest.TestCase):
    """[K6], where nothing raises TooMany"""

    def test_right_and_never_stuck(self):
        checked = 0
        for maker in MAKERS:
            for n in SIZES:
                for call in (clash, stuck):
                    found = within(call, maker(n))
                    if found:
                        self.assertEqual(found, (None,))
                        checked += 1
                self.assertIs(within(clash, maker(n)) is None, within(reach, maker(n), 0) is None)
        self.assertEqual(checked, 2 * 11)

    def test_costs(self):
        checked = 0
        for n in SIZES:
            for maker, letters, rows, beats in (
                    (central, 3 * (n - 1), 2 * n, 3), (central_three, 5 * (n - 1), 3 * n, 5),
                    (everyone, n * (n - 1), 2 * n, 1), (chain, 2 * (n - 1), 2 * n, 2 * (n - 1))):
                found = within(spent, maker(n), "done")
                if found:
                    self.assertEqual(found, ((letters, letters, rows, rows),))
                    checked += 1
                found = within(quickest, maker(n), "done")
                if found:
                    self.assertEqual(found, (beats,))
                    checked += 1
        self.assertEqual(checked, 2 * 11)

    def test_what_they_bear(self):
        for n in (2, 3):
            self.assertEqual(within(bears, central(n)), (1,))
            self.assertEqual(within(bears, everyone(n)), (1,))
            self.assertEqual(within(bears, central_three(n)), (n - 1,))
        checked = 0
        for n in SIZES:
            found = within(bears, chain(n))
            if found:
                self.assertEqual(found, (0,))
                checked += 1
            self.assertIs(blocks(chain(n), (n - 1,)), True)
        self.assertEqual(checked, 3)


if __name__ == "__main__":
    unittest.main()
