import re
import unittest

from leftstanding.standings import begin, standing_error
from drawn import drawn_agreements, drawn_run
from model import standings_of
from samples import (
    AGREED, AGREEMENTS, COIN, FULL, KINDS, LATE, PAIR, TRIO, any_values, at, changed, longest, paths, returned, same,
)

# The row 0 is not late and sends two letters, the row 1 is late and sends three, the row 2 sends none.
AMID = (
    (KINDS, (
        (0, (), 1, ((1, "a"), (2, "a")), False),
        (0, (), 3, ((1, "b"), (2, "b"), (2, "c")), True),
        (1, (), 2, (), False),
    )),
    (("open", "off"), ((0, (), 1, ((0, "a"),), True),)),
    (("yes",), ()),
)
WRONG_INTEGERS = (-1, True, False, None, "0", "", (), (0,), [], [0], {}, {0: 0}, 10 ** 399, -(10 ** 399))


def is_text(value, pattern):
    """Whether the value, written out by Python, is just such a text: so True is not 1 here, nor a list a tuple."""
    return re.fullmatch(pattern, repr(value)) is not None


def ascends(items):
    return all(one < other for one, other in zip(items, items[1:]))


def fits_doing(doing, rows, state):
    if is_text(doing, r"\(\)"):
        return True
    if not is_text(doing, r"\(\d+, \d\)") or doing[0] >= len(rows):
        return False
    row = rows[doing[0]]
    return doing[1] < len(row[3]) and state == row[0 if row[4] else 2]


def told_error(agreement, value):
    """What the document tells of the value, worked out once more, in another way."""
    houses = len(agreement)
    if value.__class__ is not tuple or len(value) != 4 or any(item.__class__ is not tuple for item in value):
        return "form"
    if len(value[0]) != houses or len(value[1]) != houses:
        return "form"
    for house, state in enumerate(value[0]):
        if not is_text(state, r"\d") or state >= len(agreement[house][0]):
            return ("state", house)
    for house, doing in enumerate(value[1]):
        if not fits_doing(doing, agreement[house][1], value[0][house]):
            return ("doing", house)
    letter = r"\([0-9], [0-9], '[a-z]{1,6}'\)"
    if not all(is_text(item, letter) and item[0] != item[1] and max(item[:2]) < houses for item in value[2]):
        return "letters"
    if not ascends(value[2]):
        return "letters"
    if not all(is_text(house, "[0-9]") and house < houses for house in value[3]) or not ascends(value[3]):
        return "fallen"
    return "fallen" if any(value[1][house] for house in value[3]) else None


class Case(unittest.TestCase):

    def check(self, agreement, value, expected):
        found = returned(standing_error, agreement, value)
        if not same(found, expected):
            self.fail(f"{found!r} is not {expected!r} of {value!r:.300}")

    def check_told(self, agreement, value):
        self.check(agreement, value, told_error(agreement, value))


class Begin(Case):

    def test_two_three_and_four_houses(self):
        expected = {
            2: ((0, 0), ((), ()), (), ()),
            3: ((0, 0, 0), ((), (), ()), (), ()),
            4: ((0, 0, 0, 0), ((), (), (), ()), (), ()),
        }
        for agreement in AGREEMENTS + (PAIR, LATE, AMID, longest(True)) + tuple(drawn_agreements(9)):
            found = returned(begin, agreement)
            self.assertTrue(same(found, expected[len(agreement)]))
            self.check(agreement, found, None)


class Standings(Case):

    def test_standings_that_come(self):
        for agreement in AGREEMENTS + (PAIR, LATE, AMID, longest(False)) + tuple(drawn_agreements(30)):
            for seed in range(3):
                for standing in standings_of(agreement, drawn_run(agreement, seed)):
                    self.check(agreement, standing, None)

    def test_standings_that_never_come(self):
        for value in (
                ((3, 3), ((), ()), (), ()), ((0, 2), ((), ()), (), ()), ((2, 0), ((1, 0), ()), (), (1,)),
                ((0, 0), ((), ()), ((0, 1, "a"), (0, 1, "zzzzzz"), (1, 0, "ask")), ()),
                ((1, 3), ((), ()), (), (0, 1)), ((0, 0), ((), (1, 0)), (), ()), ((0, 3), ((), (1, 0)), (), (0,))):
            self.check_told(AGREED, value)
        self.check(AGREED, ((1, 1), ((0, 0), (0, 0)), ((0, 1, "no"), (1, 0, "ask"), (1, 0, "x")), ()), None)
        self.check(AGREED, ((3, 2), ((), ()), ((0, 1, "x"),), (0, 1)), None)
        self.check(TRIO, ((2, 2, 2), ((), (), ()), tuple(sorted((a, b, "q") for a in range(3) for b in range(3)
                                                                if a != b)), (0, 1, 2)), None)

    def test_all_values_at_each_place(self):
        for value in any_values():
            for agreement in (COIN, AMID, FULL):
                self.check_told(agreement, value)
                standing = begin(agreement)
                for path in paths(standing):
                    self.check_told(agreement, changed(standing, path, value))
        standing = ((3, 0, 0), ((), (0, 0), ()), ((0, 1, "a"), (2, 1, "b")), (0, 2))
        self.check(AMID, standing, None)
        for path in paths(standing):
            for value in any_values() + [0, 1, 2, 3, 4, "a", "b", (0, 0), (1, 0), (0, 1)]:
                self.check_told(AMID, changed(standing, path, value))
            part = at(standing, path)
            for value in ([part], (part,), {0: part}, part == 1, (part, part)):
                self.check_told(AMID, changed(standing, path, value))
            if isinstance(part, tuple):
                self.assertIsNotNone(standing_error(AMID, changed(standing, path, list(part))))
                for other in (list(part), part[1:], part[:-1], part + part[:1], part[::-1], part + (0,)):
                    self.check_told(AMID, changed(standing, path, other))

    def test_form(self):
        good = begin(AMID)
        self.check(AMID, good, None)
        for value in (good[:3], good + ((),), list(good), (), (good,), good[:2], begin(COIN), begin(FULL)):
            self.check(AMID, value, "form")
        for place in range(4):
            for wrong in (None, [], list(good[place]), {}, "", 0, True):
                self.check(AMID, changed(good, (place,), wrong), "form")
        for place in (0, 1):
            for many in (0, 1, 2, 4, 5):
                self.check(AMID, changed(good, (place,), (good[place] * 2)[:many]), "form")

    def test_states(self):
        for house, (kinds, _) in enumerate(AMID):
            for state in range(-2, 10):
                value = changed(begin(AMID), (0, house), state)
                self.check(AMID, value, None if 0 <= state < len(kinds) else ("state", house))
            for wrong in WRONG_INTEGERS:
                self.check(AMID, changed(begin(AMID), (0, house), wrong), ("state", house))

    def test_doing(self):
        fits = {
            (0, 1): [(0, 0), (0, 1)],
            (0, 0): [(1, 0), (1, 1), (1, 2)],
            (1, 0): [(0, 0)],
        }
        for house in range(3):
            for state in range(len(AMID[house][0])):
                for k in range(-1, 5):
                    for sent in range(-1, 5):
                        value = changed(changed(begin(AMID), (0, house), state), (1, house), (k, sent))
                        expected = None if (k, sent) in fits.get((house, state), []) else ("doing", house)
                        self.check(AMID, value, expected)
        for wrong in (None, [], (0,), (0, 0, 0), [0, 0], ((0, 0),), (0, False), (False, 0), (0, None), 0, "", {}):
            self.check(AMID, changed(changed(begin(AMID), (0, 0), 1), (1, 0), wrong), ("doing", 0))
        for wrong in WRONG_INTEGERS:
            for place in (0, 1):
                value = changed(changed(begin(AMID), (0, 0), 1), (1, 0), changed((0, 0), (place,), wrong))
                self.check(AMID, value, ("doing", 0))

    def test_letters(self):
        a, b, c = (0, 1, "a"), (0, 1, "b"), (2, 0, "ab")
        for letters in ((), (a,), (a, b), (a, c), (a, b, c), ((0, 1, "ab"), b), ((0, 1, "z"), (0, 2, "a"))):
            self.check(AMID, changed(begin(AMID), (2,), letters), None)
        wrongs = ((a, a), (b, a), (c, a), (a, c, b), (a, a, b), (a, b, a), ([0, 1, "a"],), (list(a), b), (a, None),
                  (a[:2],), (a + ("a",),), a, ("a",), ((),), ((0, 1, "b"), (0, 1, "ab")), [a], (a, []))
        for letters in wrongs:
            expected = "letters" if isinstance(letters, tuple) else "form"
            self.check(AMID, changed(begin(AMID), (2,), letters), expected)
        for sender in range(-1, 5):
            for receiver in range(-1, 5):
                fits = sender != receiver and 0 <= sender < 3 and 0 <= receiver < 3
                value = changed(begin(AMID), (2,), ((sender, receiver, "a"),))
                self.check(AMID, value, None if fits else "letters")
        for wrong in WRONG_INTEGERS:
            self.check(AMID, changed(begin(AMID), (2,), ((wrong, 1, "a"),)), "letters")
            self.check(AMID, changed(begin(AMID), (2,), ((2, wrong, "a"),)), "letters")
        for word in (
                "", "sevenab", "A", "a1", "a b", "a\n", " a", "a-", "{", "`", None, 1, True, ("a",), ["a"],
                "a" * 20000):
            self.check(AMID, changed(begin(AMID), (2,), ((0, 1, word),)), "letters")
            self.check(AMID, changed(begin(AMID), (2,), (a, (2, 1, word))), "letters")
        for word in ("z", "abcdef", "zzzzzz"):
            self.check(AMID, changed(begin(AMID), (2,), ((0, 1, word),)), None)

    def test_fallen(self):
        for fallen in ((), (0,), (1,), (2,), (0, 1), (0, 2), (1, 2), (0, 1, 2)):
            self.check(AMID, changed(begin(AMID), (3,), fallen), None)
        for fallen in ((0, 0), (1, 0), (2, 1), (0, 2, 1), (0, 1, 1), (0, 0, 1), (3,), (0, 3), (0, 1, 2, 3), (-1,),
                       (-1, 0), ((0,),), ((),), (0, None), ("0",)):
            self.check(AMID, changed(begin(AMID), (3,), fallen), "fallen")
        for wrong in WRONG_INTEGERS:
            self.check(AMID, changed(begin(AMID), (3,), (wrong,)), "fallen")
            self.check(AMID, changed(begin(AMID), (3,), (0, wrong)), "fallen")
        busy = ((1, 0, 0), ((0, 1), (0, 0), ()), (), ())
        for fallen in ((), (0,), (1,), (2,), (0, 1), (0, 2), (1, 2), (0, 1, 2)):
            self.check(AMID, changed(busy, (3,), fallen), None if fallen in ((), (2,)) else "fallen")

    def test_wrong_in_two_ways(self):
        good = ((1, 0, 0), ((0, 1), (0, 0), ()), ((0, 1, "a"),), ())
        self.check(AMID, good, None)
        wrongs = (
            ((3,), [], "form"), ((1,), ((),), "form"), ((0, 0), 4, ("state", 0)), ((0, 1), True, ("state", 1)),
            ((0, 2), None, ("state", 2)), ((1, 0), (1, 0), ("doing", 0)), ((1, 1), [], ("doing", 1)),
            ((1, 2), (0, 0), ("doing", 2)), ((2,), ((1, 1, "a"),), "letters"), ((3,), (1,), "fallen"),
        )
        for k, (path, wrong, expected) in enumerate(wrongs):
            self.check(AMID, changed(good, path, wrong), expected)
            for other, worse, _ in wrongs[k + 1:]:
                if path[:1] != other[:1] or len(path) == len(other) == 2:
                    self.check(AMID, changed(changed(good, other, worse), path, wrong), expected)

    def test_parts_in_the_place_of_others(self):
        value = ((1, 0, 0), ((0, 1), (0, 0), ()), ((0, 1, "a"), (2, 0, "b")), (2,))
        self.check(AMID, value, None)
        for path in paths(value):
            for other in paths(value):
                self.check_told(AMID, changed(value, path, at(value, other)))

    def test_standings_of_other_agreements(self):
        agreements = AGREEMENTS + (PAIR, LATE, AMID) + tuple(drawn_agreements(8))
        standings = [standing for own in agreements for standing in standings_of(own, drawn_run(own, 1))]
        for agreement in agreements:
            for standing in standings:
                self.check_told(agreement, standing)


if __name__ == "__main__":
    unittest.main()
