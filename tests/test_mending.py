import unittest

from leftstanding.books import agreement_error
from leftstanding.costs import spent
from leftstanding.mending import mended
from leftstanding.moving import led
from leftstanding.reaches import clash, reach
from leftstanding.texts import agreement_text, read_agreement
from leftstanding.twins import twins
from drawn import drawn_agreements, drawn_variant, small_ones
from model import Run, kinds_in
from samples import (
    AGREED, COIN, DEAF, FULL, HASTY, KINDS, LATE, PAIR, READY, SPREAD, SPREAD_LATE, UNLIKE, WILLING, any_values,
    central, everyone, outcome, raised, returned, same, to,
)

UNFIT = ("Unfit", {})
REAL = (COIN, AGREED, PAIR, LATE, SPREAD, SPREAD_LATE, WILLING, READY, DEAF, central(2), everyone(2))
SIX = tuple("abcdef")


def told_mended(agreement, word):
    """The text of the mended agreement, worked out line by line."""
    lines, books = [], agreement_text(agreement).split("house")[1:]
    for own, text in enumerate(books):
        head, *rows = text.strip().split("\n")
        kinds = head.split(" ")
        ready = [state for state, kind in enumerate(kinds) if kind == "done"]
        others = [str(house) for house in range(len(books)) if house != own]
        lines.append(" ".join(["house"] + ["yes" if kind == "done" else kind for kind in kinds] + ["done"] * len(ready)))
        for row in rows:
            if int(row.split(" ")[2]) in ready:
                row = row.removesuffix(" late") + "".join(f" >{other}.{word}" for other in others)
            lines.append(row)
        for place, state in enumerate(ready):
            row = f"row {state} {len(kinds) + place}" + "".join(f" <{other}.{word}" for other in others)
            lines.append(row)
    return "\n".join(lines)


def with_book(houses, kinds, rows):
    """An agreement of so many houses, the last one of which has this book."""
    return ((("yes",), ()),) * (houses - 1) + ((kinds, tuple(rows)),)


def sending(houses, many, onto=1, words=SIX):
    """A row of the last house onto this state, that sends so many letters to the house 0."""
    return (0, (), onto, tuple((0, word) for word in words[:many]), False)


class Mended(unittest.TestCase):

    def test_texts(self):
        changes = set()
        for agreement in REAL + small_ones(120) + tuple(drawn_agreements(90)):
            found = outcome(mended, (agreement, "mend"), {})
            if found[0] == "returns":
                expected = read_agreement(told_mended(agreement, "mend"))
                self.assertTrue(same(returned(mended, agreement, "mend"), expected))
                self.assertIsNone(agreement_error(found[1]))
                for kinds, _ in agreement:
                    changes.add(min(kinds.count("done"), 2))
            else:
                self.assertIsNotNone(agreement_error(unchecked(agreement, "mend")))
        self.assertEqual(changes, {0, 1, 2})

    def test_books_without_done(self):
        for book in ((("open",), ()), (("yes", "off", "open"), ((0, (), 1, ((0, "a"),), True),))):
            agreement = (COIN[0], book)
            self.assertEqual(returned(mended, agreement, "z")[1], book)
            self.assertEqual(returned(mended, (book[:1] + ((),), book[:1] + ((),)), "z"), (book[:1] + ((),),) * 2)

    def test_several_states_of_done(self):
        kinds = ("yes", "done", "off", "done", "yes")
        rows = (
            (0, (), 3, ((1, "b"), (1, "a")), True), (0, ((1, "c"),), 1, (), False), (0, (), 2, ((1, "b"),), True),
            (0, (), 4, (), True), (0, (), 3, (), True),
        )
        expected = (
            ("yes", "yes", "off", "yes", "yes", "done", "done"),
            (
                (0, (), 3, ((1, "b"), (1, "a"), (1, "go")), False),
                (0, ((1, "c"),), 1, ((1, "go"),), False),
                (0, (), 2, ((1, "b"),), True),
                (0, (), 4, (), True),
                (0, (), 3, ((1, "go"),), False),
                (1, ((1, "go"),), 5, (), False),
                (3, ((1, "go"),), 6, (), False),
            ),
        )
        agreement = ((kinds, rows), (("yes",), ()))
        self.assertIsNone(agreement_error(agreement))
        self.assertTrue(same(returned(mended, agreement, "go"), (expected, (("yes",), ()))))
        # A state of kind "done" to which no row leads gets a new state and a new row all the same.
        self.assertEqual(returned(mended, ((("open", "done"), ()), (("yes",), ())), "x"), (
            (("open", "yes", "done"), ((1, ((1, "x"),), 2, (), False),)), (("yes",), ())))

    def test_order_of_letters(self):
        found = returned(mended, central(3), "go")
        self.assertEqual(found[0][1][2], (1, to((1, 2), "yes"), 2, to((1, 2), "done") + to((1, 2), "go"), False))
        self.assertEqual(found[0][1][5], (2, to((1, 2), "go"), 4, (), False))
        self.assertEqual(found[1][1][3], (1, ((0, "done"),), 2, to((0, 2), "go"), False))
        self.assertEqual(found[2][1][5], (2, to((0, 1), "go"), 4, (), False))
        self.assertEqual(len(found[0][1]), 6)

    def test_twice(self):
        for agreement in (COIN, AGREED, SPREAD):
            once = mended(agreement, "mend")
            self.assertEqual(raised(mended, once, "mend"), UNFIT)
            twice = returned(mended, once, "set")
            self.assertEqual(twice, read_agreement(told_mended(once, "set")))
            self.assertEqual(twice[0][0][-3:], ("off", "yes", "done"))
            for most in range(len(agreement)):
                self.assertIsNone(twins(twice, most))


def unchecked(agreement, word):
    """The mended value, be it an agreement or not."""
    books = []
    for own, (kinds, rows) in enumerate(agreement):
        ready = [state for state, kind in enumerate(kinds) if kind == "done"]
        letters = to([house for house in range(len(agreement)) if house != own], word)
        rows = [row[:3] + (row[3] + letters, False) if row[2] in ready else row for row in rows]
        rows += [(state, letters, len(kinds) + place, (), False) for place, state in enumerate(ready)]
        kinds = tuple("yes" if kind == "done" else kind for kind in kinds) + ("done",) * len(ready)
        books.append((kinds, tuple(rows)))
    return tuple(books)


class Bounds(unittest.TestCase):

    def check(self, agreement, limit):
        self.assertIsNone(agreement_error(agreement))
        if limit is None:
            self.assertEqual(returned(mended, agreement, "mend"), unchecked(agreement, "mend"))
            self.assertIsNone(agreement_error(mended(agreement, "mend")))
        else:
            self.assertEqual(raised(mended, agreement, "mend"), ("TooMany", {"limit": limit}))

    def test_states(self):
        for houses in (2, 3, 4):
            for house in range(houses):
                for kinds, limit in (
                        (("yes",) * 6 + ("done",), None), (("yes",) * 7 + ("done",), 8), (("yes",) * 8, None),
                        (("yes", "off", "yes", "yes") + ("done",) * 2, None), (("yes",) * 5 + ("done",) * 2, 8),
                        (("yes",) + ("done",) * 3 + ("off",), None), (("yes",) + ("done",) * 4, 8)):
                    books = [(("yes",), ())] * houses
                    books[house] = (kinds, ())
                    self.check(tuple(books), limit)

    def test_rows(self):
        for houses in (2, 3, 4):
            for done, many, limit in ((1, 11, None), (1, 12, 12), (2, 10, None), (2, 11, 12), (3, 9, None), (3, 10, 12),
                                      (0, 12, None)):
                kinds = ("yes", "off") + ("done",) * done
                for onto in (1, 1 + done):
                    self.check(with_book(houses, kinds, [sending(houses, 0, onto)] * many), limit)

    def test_sends(self):
        for houses, most in ((2, 5), (3, 4), (4, 3)):
            for many in range(7):
                kinds = ("yes", "done", "off")
                self.check(with_book(houses, kinds, [sending(houses, many)]), None if many <= most else 6)
                # A row that is not onto "done" sends as many as it did.
                self.check(with_book(houses, kinds, [sending(houses, 6, 2), sending(houses, most)]), None)

    def test_each_bound_of_all_books_ahead_of_the_next_one(self):
        states = (("yes",) * 7 + ("done",), ())
        rows = (("yes", "off", "done"), tuple(sending(2, 0, 1 + k % 2) for k in range(12)))
        sends = (("yes", "done"), (sending(2, 6),))
        house = {word: at_house(book) for word, book in (("states", states), ("rows", rows), ("sends", sends))}
        for first, second, limit in (
                ("states", "rows", 8), ("rows", "states", 8), ("sends", "states", 8), ("states", "sends", 8),
                ("rows", "sends", 12), ("sends", "rows", 12), ("sends", "sends", 6)):
            self.check((house[first](1), house[second](0)), limit)
            self.check((house[first](1), house[second](0), (("yes",), ())), limit)
        both = (("yes",) * 7 + ("done",), tuple(sending(2, 6, 7) for _ in range(12)))
        self.check((at_house(both)(1), (("open",), ())), 8)
        both = (("yes", "done"), tuple(sending(2, 6) for _ in range(12)))
        self.check((at_house(both)(1), (("open",), ())), 12)
        self.check((house["sends"](1), house["rows"](0), house["states"](0)), 8)

    def test_unfit_ahead_of_all_bounds(self):
        agreement = (at_house(((("yes",) * 7 + ("done",)), tuple(sending(2, 6, 7) for _ in range(12))))(1), (("open",), ()))
        for word in ("a", "f", "", "Ready", None):
            self.assertEqual(raised(mended, agreement, word), UNFIT)
        self.assertEqual(raised(mended, agreement, "g"), ("TooMany", {"limit": 8}))


def at_house(book):
    """The book with its letters sent to the house told."""
    kinds, rows = book
    return lambda house: (kinds, tuple(
        row[:3] + (tuple((house, word) for _, word in row[3]), row[4]) for row in rows))


class Words(unittest.TestCase):

    def test_no_words(self):
        values = any_values() + ["Ready", "readY", "re dy", "ready ", " ready", "ready\n", "sevenab", "", "r1", "r_y",
                                 ("mend",), ["mend"], {"mend": "mend"}, COIN, agreement_text(COIN), "r" * 20000, 7, b""]
        for value in [value for value in values if value != "row"]:
            found = outcome(mended, (COIN, value), {})
            self.assertEqual(found, ("raises", "Unfit", {}), value)

    def test_words(self):
        for word in ("a", "z", "mend", "abcdef", "zzzzzz", "row", "house", "late", "open", "done", "yes"):
            self.assertEqual(returned(mended, COIN, word), read_agreement(told_mended(COIN, word)))

    def test_words_that_stand_in_a_row(self):
        for agreement in REAL + (FULL, HASTY):
            words = {word for _, rows in agreement for row in rows for _, word in row[1] + row[3]}
            for word in sorted(words):
                self.assertEqual(raised(mended, agreement, word), UNFIT)

    def test_taken_or_sent_by_any_row(self):
        quiet = (("yes", "off", "done"), ((0, (), 1, (), False), (0, (), 1, (), False)))
        for house in (0, 1, 2):
            for k in (0, 1):
                for takes, sends in ((((0, "in"),), ()), ((), ((0, "in"),)), (((0, "ab"), (0, "in")), ()),
                                     ((), ((0, "ab"), (0, "in")))):
                    if house == 0:
                        takes, sends = (tuple((1, word) for _, word in part) for part in (takes, sends))
                    rows = list(quiet[1])
                    rows[k] = (0, takes, 1, sends, True)
                    books = [quiet] * 3
                    books[house] = (quiet[0], tuple(rows))
                    self.assertIsNone(agreement_error(tuple(books)))
                    self.assertEqual(raised(mended, tuple(books), "in"), UNFIT)
                    self.assertEqual(returned(mended, tuple(books), "i"), unchecked(tuple(books), "i"))


def right_ones():
    """Right agreements that can be mended, with twins and without."""
    drawn = tuple(drawn_variant(seed) for seed in range(400))
    for agreement in dict.fromkeys(REAL + small_ones(90) + drawn):
        if outcome(mended, (agreement, "mend"), {})[0] == "returns" and clash(agreement) is None:
            if outcome(reach, (mended(agreement, "mend"), len(agreement) - 1), {})[0] == "returns":
                yield agreement


def runs_of(agreement, most):
    """Runs without falls that cannot go on, at most so many."""
    found, wave = [], [()]
    while wave and len(found) < most:
        deeds = wave.pop()
        run = Run(agreement)
        for deed in deeds:
            run.do(deed)
        ways = [deed for deed in run.deeds() if deed[0] != "fall"]
        wave += [deeds + (deed,) for deed in ways]
        found += [] if ways else [deeds]
    return found


class WhatHolds(unittest.TestCase):
    """[I3], and with it [A2] (c)"""

    def test_mending(self):
        found = {True: 0, False: 0}
        for agreement in right_ones():
            other = mended(agreement, "mend")
            self.assertIsNone(clash(other))
            for most in range(len(agreement)):
                self.assertIsNone(twins(other, most), agreement)
            found[twins(agreement, len(agreement) - 1) is None] += 1
        self.assertGreater(min(found.values()), 30, found)

    def test_agreements_that_are_not_right(self):
        """What is promised of right ones is not so of all."""
        for agreement in (UNLIKE, HASTY):
            self.assertIsNotNone(clash(agreement))
        self.assertIsNone(clash(mended(UNLIKE, "mend")))

    def test_runs_with_what_was_put_in(self):
        found = {"done": 0, "off": 0}
        for agreement in [own for own in right_ones() if len(reach(own, 0)) <= 60]:
            other = mended(agreement, "mend")
            for deeds in runs_of(agreement, 40):
                ends = set(kinds_in(agreement, led(agreement, deeds)))
                if ends == {"off"}:
                    self.assertEqual(led(other, deeds), led(agreement, deeds))
                if ends == {"done"}:
                    self.check_done(agreement, other, deeds)
                for end in found:
                    found[end] += ends == {end}
        self.assertGreater(min(found.values()), 50, found)

    def check_done(self, agreement, other, deeds):
        """The new letters go behind each row's own ones, the new rows at the end."""
        run, added = Run(other), 0
        for deed in deeds:
            self.assertTrue(run.can(deed), (agreement, deeds, deed))
            run.do(deed)
            house = deed[1]
            if {word for _, word in run.houses[house].rest} == {"mend"}:
                while run.can(("send", house)):
                    run.do(("send", house))
                    added += 1
        for house in range(len(other)):
            rows = [deed for deed in run.deeds() if deed[0] == "row" and deed[1] == house]
            self.assertEqual(len(rows), 1)
            run.do(rows[0])
        self.assertEqual(set(kinds_in(other, run.standing())), {"done"})
        self.assertEqual(added, len(other) * (len(other) - 1))

    def test_spent(self):
        found = 0
        for agreement in right_ones():
            other, n = mended(agreement, "mend"), len(agreement)
            self.assertEqual(spent(other, "off"), spent(agreement, "off"))
            told = spent(agreement, "done")
            if told is None:
                self.assertIsNone(spent(other, "done"))
            else:
                letters, rows = n * (n - 1), n
                self.assertEqual(spent(other, "done"), (
                    told[0] + letters, told[1] + letters, told[2] + rows, told[3] + rows))
                found += 1
        self.assertGreater(found, 20)

    def test_who_has_ended_done_has_heard_of_all(self):
        for agreement in (COIN, AGREED, SPREAD_LATE, central(2)):
            other = mended(agreement, "mend")
            for standing in reach(other, len(other) - 1):
                kinds = kinds_in(other, standing)
                for house in range(len(other)):
                    if kinds[house] == "done":
                        for another in range(len(other)):
                            self.assertGreaterEqual(standing[0][another], agreement[another][0].index("done"))
                            self.assertNotIn((another, house, "mend"), standing[2])

    def test_a_book_without_done_keeps_all_from_it(self):
        agreement = (COIN[0], (("yes", "off"), ((0, ((0, "off"),), 1, (), False),)))
        other = returned(mended, agreement, "mend")
        self.assertEqual(other[1], agreement[1])
        for standing in reach(other, 1):
            self.assertNotIn("done", kinds_in(other, standing))

    def test_kinds(self):
        self.assertEqual(mended(AGREED, "go")[0][0], ("open", "yes", "yes", "off", "done"))
        self.assertEqual(mended(AGREED, "go")[1][0], KINDS[:2] + ("yes", "off", "done"))


if __name__ == "__main__":
    unittest.main()
