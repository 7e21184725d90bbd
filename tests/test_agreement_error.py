import re
import unittest

from leftstanding.books import agreement_error
from samples import (
    AGREEMENTS, COIN, FULL, FULL_KINDS, FULL_ROWS, FULL_SENDS, FULL_TAKES, KINDS, TRIO, any_values, at, changed, kept,
    paths, same,
)

LONE = (("open",), ())
GOOD = (0, (), 1, (), False)
INTEGERS = (-2, -1, 0, 1, 2, 3, 4, 5, 10 ** 399, -(10 ** 399))
# What is no integer, though some of it equals one.
NO_INTEGERS = (True, False, None, "", "0", "1", (), (0,), (1,), [], [1], {}, {1: 1})
NO_WORDS = (
    "", "sevenab", "A", "Z", "aB", "a1", "0", "a b", " ", " a", "a ", "a\n", "\n", "a-b", "a_b", "`", "{", "a{", "`a",
    "a.b", "do!", None, True, 0, 1, (), ("a",), ["a"], ("d", "o"), {}, {"a": 1}, "a" * 20000,
)


class Case(unittest.TestCase):

    def check(self, value, expected):
        found = kept(agreement_error, value)
        if not same(found, expected):
            self.fail(f"{found!r} is not {expected!r} of {value!r:.300}")

    def check_book(self, book, expected, houses=2):
        """The book at each place among lone ones; expected lacks the house."""
        for house in range(houses):
            value = (LONE,) * house + (book,) + (LONE,) * (houses - 1 - house)
            self.check(value, expected and (expected[0], house) + expected[1:])

    def check_row(self, row, is_row, kinds=KINDS):
        """The row alone, and behind a good one, in the house 1 of 4."""
        expected = [None if is_row else ("row", 1, k) for k in (0, 1)]
        self.check((LONE, (kinds, (row,)), LONE, LONE), expected[0])
        self.check((LONE, (kinds, (GOOD, row)), LONE, LONE), expected[1])
        self.check((LONE, (kinds, (GOOD, row, GOOD)), LONE, LONE), expected[1])


class Agreements(Case):

    def test_samples(self):
        for value in AGREEMENTS:
            self.check(value, None)

    def test_called_by_name(self):
        self.assertIsNone(agreement_error(value=COIN))
        self.assertEqual(agreement_error(value=COIN[:1]), "form")
        self.assertEqual(agreement_error(value=(COIN[0], (("done",), ()))), ("kinds", 1))

    def test_houses(self):
        for houses in (2, 3, 4):
            self.check((LONE,) * houses, None)
        for houses in (0, 1, 5, 6, 100, 5000):
            self.check((LONE,) * houses, "form")
        self.check((None,) * 5, "form")
        self.check((None,), "form")

    def test_no_tuple(self):
        for value in any_values():
            if value.__class__ is not tuple:
                self.check(value, "form")
        for value in AGREEMENTS:
            self.check(list(value), "form")
            self.check({house: book for house, book in enumerate(value)}, "form")
            self.check((value,), "form")

    def test_letters_to_each_other_house(self):
        for houses in (2, 3, 4):
            for house in range(houses):
                for other in range(-1, 6):
                    fits = 0 <= other < houses and other != house
                    for row in ((0, ((other, "a"),), 1, (), False), (0, (), 1, ((other, "a"),), False)):
                        books = [LONE] * houses
                        books[house] = (KINDS, (row,))
                        self.check(tuple(books), None if fits else ("row", house, 0))

    def test_two_houses_wrong(self):
        wrongs = (
            (None, ("book",)),
            ((("off",), ()), ("kinds",)),
            ((KINDS, (GOOD, None)), ("row", 1)),
            ((KINDS, (GOOD, GOOD, GOOD[:4])), ("row", 2)),
        )
        for first, expected in wrongs:
            for second, _ in wrongs:
                for houses in (2, 3, 4):
                    for house in range(houses - 1):
                        for other in range(house + 1, houses):
                            books = [LONE] * houses
                            books[house], books[other] = first, second
                            self.check(tuple(books), (expected[0], house) + expected[1:])

    def test_wrong_form_ahead_of_wrong_books(self):
        for value in ([None, None], (None,), (None,) * 5, ((("done",), ()),), [(("done",), ())] * 2):
            self.check(value, "form")


class Books(Case):

    def test_no_pair_of_tuples(self):
        good = (KINDS, (GOOD,))
        wrongs = [
            list(good), (list(KINDS), (GOOD,)), (KINDS, [GOOD]), (KINDS,), (KINDS, (GOOD,), ()), (), (None, ()),
            (KINDS, None), ("open", ()), (KINDS, "row"), (KINDS, {}), ({"open": 1}, ()), (True, False), (KINDS, 0),
        ]
        for wrong in wrongs:
            self.check_book(wrong, ("book",))
        for value in any_values():
            # A pair of tuples is among them; its first one are no kinds.
            self.check_book(value, ("kinds",) if same(value, ((), ())) else ("book",))

    def test_book_ahead_of_kinds_and_rows(self):
        for wrong in ((("done",), [None]), ((), None), ([], (None,)), (["done"], (None,)), ((), (None,), ())):
            self.check_book(wrong, ("book",))

    def test_kinds_ahead_of_rows(self):
        for kinds in ((), ("done", "off"), ("open", "Yes"), ("open",) * 9, ("open", None)):
            self.check_book((kinds, (None,)), ("kinds",))
            self.check_book((kinds, (GOOD,) * 13), ("kinds",))

    def test_how_many_states(self):
        for first in ("open", "yes"):
            for many in range(0, 12):
                for rest in KINDS:
                    kinds = ((first,) + (rest,) * many)[:many]
                    self.check_book((kinds, ()), None if 1 <= many <= 8 else ("kinds",))
        self.check_book((FULL_KINDS, ()), None)
        self.check_book((FULL_KINDS + ("off",), ()), ("kinds",))

    def test_first_kind(self):
        for first in KINDS:
            for rest in ((), ("open",), ("yes", "done", "off"), ("off",) * 7):
                self.check_book(((first,) + rest, ()), None if first in ("open", "yes") else ("kinds",))

    def test_each_kind(self):
        wrongs = [
            "Open", "OPEN", "opens", "ope", "yes ", " yes", "no", "of", "offf", "done\n", "open yes", "y", ["open"],
            ("open",), {"open": "open"}, 0, 1,
        ]
        for wrong in wrongs + any_values():
            for many in range(1, 9):
                for place in range(many):
                    kinds = ["yes"] * many
                    kinds[place] = wrong
                    self.check((LONE, (tuple(kinds), ())), ("kinds", 1))

    def test_how_many_rows(self):
        row = (0, ((3, "a"),), 1, ((3, "b"),), True)
        for house in range(3):
            for many in range(0, 16):
                value = [LONE] * 4
                value[house] = (KINDS, (row,) * many)
                self.check(tuple(value), None if many <= 12 else ("row", house, 12))
        self.check_book((KINDS, (GOOD,) * 5000), ("row", 12))
        self.check(FULL, None)
        self.check(FULL[:2] + ((FULL_KINDS, FULL_ROWS + FULL_ROWS[:1]),) + FULL[3:], ("row", 2, 12))

    def test_wrong_row_ahead_of_the_thirteenth(self):
        for many in (12, 13, 14, 20):
            for place in range(many):
                for wrong in (None, GOOD[:4], (1, (), 0, (), False)):
                    rows = [GOOD] * many
                    rows[place] = wrong
                    self.check_book((KINDS, tuple(rows)), ("row", min(place, 12)))

    def test_first_wrong_row(self):
        for first in range(6):
            for second in range(first, 6):
                rows = [GOOD] * 6
                rows[first] = (0, (), 1, (), None)
                rows[second] = (0, (), 2, (), False)
                self.check_book((KINDS, tuple(rows)), ("row", first))


class Rows(Case):

    def test_how_many_items(self):
        row = (0, (), 1, (), False)
        self.check_row(row, True)
        for many in range(5):
            self.check_row(row[:many], False)
        for more in (False, (), 0, None):
            self.check_row(row + (more,), False)
        self.check_row(list(row), False)
        for value in any_values():
            self.check_row(value, False)

    def test_states(self):
        for many in range(1, 9):
            kinds = ("yes",) * many
            for state in range(-2, 10):
                for onto in range(-2, 10):
                    is_row = 0 <= state < onto < many
                    value = (LONE, (kinds, ((state, (), onto, (), False),)))
                    self.check(value, None if is_row else ("row", 1, 0))

    def test_states_that_are_no_integers(self):
        kinds = ("yes",) * 4
        for state in INTEGERS + NO_INTEGERS:
            for onto in INTEGERS + NO_INTEGERS:
                whole = state.__class__ is int and onto.__class__ is int
                self.check_row((state, (), onto, (), False), whole and 0 <= state < onto < 4, kinds)
        for value in any_values():
            self.check_row((value, (), 3, (), False), False, kinds)
            self.check_row((0, (), value, (), False), False, kinds)

    def test_kinds_that_a_row_joins(self):
        onto = {"open": ("open", "yes", "off"), "yes": ("yes", "done", "off"), "done": (), "off": ()}
        for one in KINDS:
            for other in KINDS:
                row = (1, (), 2, (), False)
                value = (LONE, (("open", one, other), (row,)))
                self.check(value, None if other in onto[one] else ("row", 1, 0))
                if one in ("open", "yes"):
                    value = (LONE, ((one, other), (GOOD,)))
                    self.check(value, None if other in onto[one] else ("row", 1, 0))

    def test_takes(self):
        a, b, c, d = (0, "a"), (0, "b"), (2, "a"), (3, "zzzzzz")
        for takes in ((), (a,), (a, b), (a, c), (b, c), (a, b, c, d), (a, (0, "aa"), b), ((0, "z"), (2, "aa"))):
            self.check_row((0, takes, 1, (), False), True)
        wrongs = (
            (b, a), (a, a), (c, a), (c, b), (a, b, b), (a, a, b), (a, c, b), (a, b, c, a), (b, a, c), (d, c, b, a),
            ((0, "b"), (0, "ab")), ((2, "a"), (0, "b")), ((0, "aa"), (0, "a")),
        )
        for takes in wrongs:
            self.check_row((0, takes, 1, (), False), False)

    def test_how_many_takes(self):
        pairs = tuple((other, word) for other in (0, 2, 3) for word in ("a", "b"))
        for many in range(7):
            self.check_row((0, pairs[:many], 1, (), False), many <= 4)
        self.check_row((0, tuple((0, "a") for _ in range(3000)), 1, (), False), False)

    def test_sends(self):
        a, b, c, d = (0, "a"), (0, "b"), (2, "a"), (3, "zzzzzz")
        for sends in ((), (a,), (a, b), (b, a), (c, a), (d, c, b, a), (b, c, a, d), ((0, "aa"), (0, "a"))):
            self.check_row((0, (), 1, sends, True), True)
        for sends in ((a, a), (a, b, a), (b, a, a), (d, c, d), (a, b, c, d, a), (b, b)):
            self.check_row((0, (), 1, sends, True), False)

    def test_how_many_sends(self):
        pairs = tuple((other, word) for other in (3, 2, 0) for word in ("c", "b", "a"))
        for many in range(10):
            self.check_row((0, (), 1, pairs[:many], False), many <= 6)
        self.check_row((0, (), 1, tuple((0, "a") for _ in range(3000)), False), False)

    def check_pair(self, pair, is_pair):
        """The pair alone, and beside another one, as what is taken and as what is sent."""
        self.check_row((0, (pair,), 1, (), False), is_pair)
        self.check_row((0, (), 1, (pair,), False), is_pair)
        self.check_row((0, ((0, "a"), pair), 1, (), False), is_pair)
        self.check_row((0, (), 1, (pair, (0, "a")), False), is_pair)
        self.check_row((0, (), 1, ((0, "a"), pair), True), is_pair)

    def test_houses_of_pairs(self):
        for other in INTEGERS + NO_INTEGERS:
            is_house = other.__class__ is int and other in (0, 2, 3)
            self.check_pair((other, "b"), is_house)
        for value in any_values():
            self.check_pair((value, "b"), False)

    def test_words_of_pairs(self):
        for word in ("b", "z", "az", "za", "abc", "yes", "zzzzzz", "abcdef", "bbbbb", "mnopqr"):
            self.check_pair((2, word), True)
        for letter in "abcdefghijklmnopqrstuvwxyz":
            self.check_pair((2, letter), True)
            self.check_pair((2, "ab" + letter), True)
        for many in range(0, 9):
            self.check_pair((2, "x" * many), 1 <= many <= 6)
        for word in NO_WORDS:
            self.check_pair((2, word), False)

    def test_each_sign_of_words(self):
        signs = [chr(code) for code in range(32, 127)] + ["\n"]
        for sign in signs:
            for word in (sign, sign + "a", "a" + sign, "abc" + sign + "de"):
                value = (LONE, (KINDS, ((0, (), 1, ((0, word),), False),)))
                self.check(value, None if "a" <= sign <= "z" else ("row", 1, 0))

    def test_no_pairs(self):
        wrongs = ((), (2,), ("b", 2), (2, "b", "c"), [2, "b"], "2b", "b", 2, {2: "b"}, (2, ("b",)), ((2, "b"),), (2, 2))
        for wrong in wrongs:
            self.check_pair(wrong, False)
        for value in any_values():
            self.check_pair(value, False)

    def test_takes_and_sends_are_tuples(self):
        wrongs = [None, True, 0, "", "ab", [], [(2, "b")], {}, {(2, "b"): 1}, (2, "b"), [[2, "b"]]]
        for wrong in wrongs:
            self.check_row((0, wrong, 1, (), False), False)
            self.check_row((0, (), 1, wrong, False), False)
        for value in any_values():
            is_row = value.__class__ is tuple and not value
            self.check_row((0, value, 1, (), False), is_row)
            self.check_row((0, (), 1, value, False), is_row)

    def test_late(self):
        for late in (True, False):
            self.check_row((0, (), 1, (), late), True)
            self.check_row((0, (), 1, ((0, "a"),), late), True)
        for late in (0, 1, None, "", "late", "True", (), (True,), [], [False], {}, -1, 10 ** 399):
            self.check_row((0, (), 1, (), late), False)
            self.check_row((0, (), 1, ((0, "a"),), late), False)

    def test_full_rows(self):
        for row in ((0, FULL_TAKES, 1, FULL_SENDS, True), (0, FULL_TAKES, 1, FULL_SENDS, False)):
            self.check(FULL[:2] + ((FULL_KINDS, (row,)),) + FULL[3:], None)
        many_takes, many_sends = FULL_TAKES + ((3, "c"),), FULL_SENDS + ((0, "b"),)
        for row in ((0, many_takes, 1, FULL_SENDS, True), (0, FULL_TAKES, 1, many_sends, True)):
            self.check(FULL[:2] + ((FULL_KINDS, (row,)),) + FULL[3:], ("row", 2, 0))


def is_text(value, pattern):
    """Whether the value, written out by Python, is just such a text: so True is not 1 here, nor a list a tuple."""
    return re.fullmatch(pattern, repr(value)) is not None


def is_tuple_of(value, lengths):
    return value.__class__ is tuple and len(value) in lengths


def are_pairs(value, most, house, houses):
    others = "".join(str(other) for other in range(houses) if other != house)
    pair = rf"\([{others}], '[a-z]{{1,6}}'\)"
    return is_tuple_of(value, range(most + 1)) and all(is_text(item, pair) for item in value)


def row_fits(row, kinds, house, houses):
    if not is_tuple_of(row, (5,)) or not is_text((row[0], row[2], row[4]), r"\([0-7], [0-7], (True|False)\)"):
        return False
    state, takes, onto, sends, _ = row
    if onto >= len(kinds) or state >= onto or not are_pairs(takes, 4, house, houses):
        return False
    if kinds[state] + " " + kinds[onto] not in ("open open", "open yes", "open off", "yes yes", "yes done", "yes off"):
        return False
    if any(one >= other for one, other in zip(takes, takes[1:])):
        return False
    return are_pairs(sends, 6, house, houses) and not any(one in sends[k + 1:] for k, one in enumerate(sends))


def told_error(value):
    """What the document tells of the value, worked out once more, in another way."""
    if not is_tuple_of(value, (2, 3, 4)):
        return "form"
    for house, book in enumerate(value):
        if not is_tuple_of(book, (2,)) or not all(part.__class__ is tuple for part in book):
            return ("book", house)
        kinds, rows = book
        if not is_tuple_of(kinds, range(1, 9)) or not all(is_text(one, "'(open|yes|done|off)'") for one in kinds):
            return ("kinds", house)
        if kinds[0] in ("done", "off"):
            return ("kinds", house)
        wrong = [k for k, row in enumerate(rows) if k >= 12 or not row_fits(row, kinds, house, len(value))]
        if wrong:
            return ("row", house, wrong[0])
    return None


class Everywhere(Case):
    """Whole agreements, changed at each of their parts."""

    def check_told(self, value):
        self.check(value, told_error(value))

    def test_wrong_values_at_each_place(self):
        for value in AGREEMENTS:
            for path in paths(value):
                part = at(value, path)
                for wrong in any_values() + [0, 1, 2, 3, 4, "a", "yes", (part,), [part], (part,) * 13, {1: part}]:
                    self.check_told(changed(value, path, wrong))

    def test_bools_and_integers_that_equal_one_another(self):
        for value in AGREEMENTS:
            for path in paths(value):
                part = at(value, path)
                if part in (0, 1):
                    other = bool(part) if part.__class__ is int else int(part)
                    self.assertIsNotNone(agreement_error(changed(value, path, other)))
                    self.check_told(changed(value, path, other))

    def test_lists_in_the_place_of_tuples(self):
        for value in AGREEMENTS:
            for path in paths(value):
                part = at(value, path)
                if isinstance(part, tuple):
                    self.assertIsNotNone(agreement_error(changed(value, path, list(part))))
                    self.check_told(changed(value, path, list(part)))

    def test_items_left_out_doubled_and_swapped(self):
        for value in AGREEMENTS:
            for path in paths(value):
                part = at(value, path)
                if not isinstance(part, tuple):
                    continue
                for k in range(len(part)):
                    self.check_told(changed(value, path, part[:k] + part[k + 1:]))
                    self.check_told(changed(value, path, part[:k] + part[k:k + 1] + part[k:]))
                    self.check_told(changed(value, path, part[:k] + part[k:k + 2][::-1] + part[k + 2:]))

    def test_parts_in_the_place_of_others(self):
        for value in (COIN, TRIO):
            for path in paths(value):
                for other in paths(value):
                    self.check_told(changed(value, path, at(value, other)))

    def test_wrong_at_two_places(self):
        for path in paths(TRIO):
            for other in paths(TRIO):
                if path[:len(other)] != other and other[:len(path)] != path:
                    for one, two in (([], []), (None, ()), ((), None), (0, "no"), ("off", 1)):
                        self.check_told(changed(changed(TRIO, path, one), other, two))

    def test_what_was_returned_is_taken_again(self):
        for value in (COIN, None, (COIN[0], None), (COIN[0], (("done",), ())), (COIN[0], (KINDS, (None,)))):
            self.check_told(agreement_error(value))
            self.check_told((agreement_error(value),) * 2)


if __name__ == "__main__":
    unittest.main()
