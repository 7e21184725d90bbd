import unittest

from leftstanding.books import with_late
from leftstanding.moving import after, deed_error, led, open_deeds
from leftstanding.standings import begin, standing_error
from drawn import drawn_agreements, drawn_run
from model import Run, all_standings, every_deed, standings_of
from samples import (
    AGREEMENTS, COIN, FULL, HASTY, KINDS, LATE, PAIR, TRIO, any_values, at, changed, longest, outcome, paths, raised,
    returned, same,
)

# The house 0 may send the letter "a" twice; the row 2 of the house 1 sends two letters, and is late.
TWICE = (
    (("open", "open", "yes"), (
        (0, (), 1, ((1, "a"), (1, "b")), False), (1, (), 2, ((1, "a"), (1, "c")), False), (1, (), 2, (), False),
    )),
    (("open", "open", "yes", "off"), (
        (0, ((0, "a"),), 1, (), False), (1, ((0, "a"), (0, "b")), 2, ((0, "d"),), False),
        (0, ((0, "a"),), 3, ((0, "f"), (0, "e")), True),
    )),
)
SAMPLES = AGREEMENTS + (PAIR, LATE, HASTY, TWICE) + tuple(drawn_agreements(45)) + tuple(
    drawn_agreements(9, states=8, rows=12, takes=4, sends=6))


class Case(unittest.TestCase):

    def check_after(self, agreement, standing, deed, expected):
        self.assertTrue(same(returned(after, agreement, standing, deed), expected), (standing, deed))

    def check_refused(self, agreement, standing, deed):
        self.assertEqual(raised(after, agreement, standing, deed), ("Refused", {"deed": deed}))
        kind, _, fields = outcome(after, (agreement, standing, deed), {})
        self.assertIs(fields["deed"], deed)


class Deeds(Case):

    def test_every_deed_in_each_standing_of_some_runs(self):
        for agreement in SAMPLES:
            for seed in range(3):
                for standing in standings_of(agreement, drawn_run(agreement, seed)):
                    run = Run(agreement, standing)
                    found = returned(open_deeds, agreement, standing)
                    self.assertTrue(same(found, tuple(run.deeds())))
                    self.assertEqual(list(found), sorted(found))
                    for deed in every_deed(agreement):
                        self.assertEqual(deed_error(agreement, standing, deed), None if deed in found else "bar")
                        if deed not in found:
                            kind, name, fields = outcome(after, (agreement, standing, deed), {})
                            self.assertEqual((kind, name), ("raises", "Refused"))
                            self.assertIs(fields["deed"], deed)

    def test_called_by_names_and_again(self):
        for agreement in SAMPLES[:12]:
            for standing in standings_of(agreement, drawn_run(agreement, 1)):
                for deed in every_deed(agreement):
                    error = returned(deed_error, agreement, standing, deed)
                    if error is None:
                        returned(after, agreement, standing, deed)
                    else:
                        self.check_refused(agreement, standing, deed)

    def test_behind_each_deed(self):
        for agreement in SAMPLES:
            for seed in range(3):
                for standing in standings_of(agreement, drawn_run(agreement, seed)):
                    for deed in open_deeds(agreement, standing):
                        run = Run(agreement, standing)
                        run.do(deed)
                        self.check_after(agreement, standing, deed, run.standing())

    def test_standings_that_never_come(self):
        letters = ((0, 1, "ask"), (0, 1, "do"), (0, 1, "zz"), (1, 0, "no"), (1, 0, "ok"))
        for states in [(one, other) for one in range(4) for other in range(4)]:
            for doing in ((), (0, 0)):
                for fallen in ((), (0,), (1,), (0, 1)):
                    standing = (states, (doing, ()), letters, fallen)
                    if standing_error(PAIR, standing) is None:
                        run = Run(PAIR, standing)
                        self.assertEqual(returned(open_deeds, PAIR, standing), tuple(run.deeds()))
                        for deed in run.deeds():
                            run = Run(PAIR, standing)
                            run.do(deed)
                            self.check_after(PAIR, standing, deed, run.standing())

    def test_nobody_left(self):
        for agreement in SAMPLES:
            standing = begin(agreement)[:3] + (tuple(range(len(agreement))),)
            self.assertEqual(returned(open_deeds, agreement, standing), ())
            for deed in every_deed(agreement):
                self.assertEqual(deed_error(agreement, standing, deed), "bar")


class NoDeeds(Case):

    def check_form(self, agreement, standing, value):
        self.assertEqual(returned(deed_error, agreement, standing, value), "form", f"{value!r:.200}")

    def test_values_of_all_kinds(self):
        for agreement in (PAIR, TRIO, FULL):
            for value in any_values() + list(SAMPLES[:5]):
                self.check_form(agreement, begin(agreement), value)
                for path in paths(("row", 0, 0)):
                    if value != at(("row", 0, 0), path):
                        self.check_form(agreement, begin(agreement), changed(("row", 0, 0), path, value))
                for word in ("send", "fall", "row"):
                    self.check_form(agreement, begin(agreement), (word, value))
                    self.check_form(agreement, begin(agreement), (value, 0))
                    self.check_form(agreement, begin(agreement), (word, 0, 0, value))
                    self.check_form(agreement, begin(agreement), (word,))

    def test_houses_and_rows(self):
        integers = list(range(-2, 14)) + [10 ** 399, -(10 ** 399)]
        others = [True, False, None, "0", "", (), (0,), [], [0], {}, {0: 0}]
        for agreement in (COIN, TRIO, FULL):
            deeds = every_deed(agreement)
            for house in integers + others:
                for word in ("send", "fall"):
                    whole = house.__class__ is int and (word, house) in deeds
                    found = returned(deed_error, agreement, begin(agreement), (word, house))
                    self.assertEqual(found == "form", not whole)
                for k in integers + others:
                    whole = house.__class__ is int and k.__class__ is int and ("row", house, k) in deeds
                    found = returned(deed_error, agreement, begin(agreement), ("row", house, k))
                    self.assertEqual(found == "form", not whole)

    def test_words_lengths_and_lists(self):
        for value in (
                ("row", 0), ("row",), ("row", 0, 0, 0), ("send",), ("send", 0, 0), ("fall", 0, 0), ("fall",),
                ("fall", ()),
                ["row", 0, 0], ["send", 0], ["fall", 0], ("Row", 0, 0), ("rows", 0, 0), ("ro", 0, 0), ("", 0),
                ("", 0, 0), (" fall", 0), ("fall ", 0), ("FALL", 0), ("sends", 0), ("sen", 0), ("late", 0, 0),
                ("bind", 0), ("end", 0), (("fall",), 0), (["fall"], 0), ("fall", [0]), ("row", [0], 0), ("row", 0, [0]),
                (0, "fall"), (0, 0, "row"), "fall 0", "row 0 0", {"fall": 0}, {0: "fall", 1: 0}, (("fall", 0),),
                (("row", 0, 0),), (("row", 0), 0), ("row", (0, 0)), ("row", 0, 0, False), ("row", True, 0),
                ("row", False, 0), ("row", 0, False), ("row", 0, True), ("send", False), ("fall", True), ()):
            for agreement in (PAIR, TRIO, FULL):
                self.check_form(agreement, begin(agreement), value)

    def test_wrong_form_wherever_one_stands(self):
        for standing in standings_of(PAIR, drawn_run(PAIR, 4)):
            for value in (("fall", 2), ("send", 2), ("row", 0, 3), ("row", 2, 0), None, ("fall", -1), ("row", 1, -1)):
                self.check_form(PAIR, standing, value)


class Told(Case):
    """What the document tells of each deed."""

    def test_row_takes_its_letters_only(self):
        letters = ((0, 1, "a"), (0, 1, "b"), (0, 1, "c"), (1, 0, "a"))
        standing = ((1, 1), ((), ()), letters, ())
        self.check_after(TWICE, standing, ("row", 1, 1), ((1, 2), ((), (1, 0)), ((0, 1, "c"), (1, 0, "a")), ()))
        for missing in (0, 1):
            fewer = (standing[0], standing[1], letters[:missing] + letters[missing + 1:], ())
            self.assertEqual(returned(deed_error, TWICE, fewer, ("row", 1, 1)), "bar")
            self.check_refused(TWICE, fewer, ("row", 1, 1))

    def test_letters_from_and_to_others_do_not_count(self):
        for letters in (((1, 0, "ask"),), ((0, 1, "asks"),), ((0, 1, "no"), (1, 0, "ask"))):
            self.assertEqual(returned(deed_error, PAIR, ((1, 0), ((), ()), letters, ()), ("row", 1, 0)), "bar")
        three = (TRIO[0], TRIO[1], TRIO[2])
        standing = ((0, 0, 0), ((), (), ()), ((0, 2, "x"), (1, 0, "x"), (2, 1, "x")), ())
        self.assertEqual(returned(deed_error, three, standing, ("row", 2, 0)), "bar")
        standing = (standing[0], standing[1], standing[2] + ((2, 1, "y"),), ())
        self.assertEqual(returned(deed_error, three, standing, ("row", 2, 0)), "bar")
        standing = (standing[0], standing[1], ((1, 2, "x"),), ())
        self.assertIsNone(returned(deed_error, three, standing, ("row", 2, 0)))

    def test_other_states(self):
        for state in range(4):
            standing = ((state, 0), ((), ()), ((1, 0, "no"), (1, 0, "ok")), ())
            rows = [deed for deed in open_deeds(PAIR, standing) if deed[0] == "row"]
            self.assertEqual(rows, {0: [("row", 0, 0)], 1: [("row", 0, 1), ("row", 0, 2)]}.get(state, []))

    def test_row_that_sends_nothing(self):
        for late in (False, True):
            agreement = with_late(TWICE, 0, 2, late)
            self.check_after(agreement, ((1, 0), ((), ()), (), ()), ("row", 0, 2), ((2, 0), ((), ()), (), ()))

    def test_letters_are_sent_in_the_order_of_the_row(self):
        standing = ((1, 0), ((0, 0), ()), (), ())
        standing = returned(after, TWICE, standing, ("send", 0))
        self.assertEqual(standing, ((1, 0), ((0, 1), ()), ((0, 1, "a"),), ()))
        standing = returned(after, TWICE, standing, ("send", 0))
        self.assertEqual(standing, ((1, 0), ((), ()), ((0, 1, "a"), (0, 1, "b")), ()))
        standing = ((0, 0), ((), ()), ((0, 1, "a"), (0, 1, "b")), ())
        for deed, expected in (
                (("row", 1, 2), ((0, 0), ((), (2, 0)), ((0, 1, "b"),), ())),
                (("send", 1), ((0, 0), ((), (2, 1)), ((0, 1, "b"), (1, 0, "f")), ())),
                (("send", 1), ((0, 3), ((), ()), ((0, 1, "b"), (1, 0, "e"), (1, 0, "f")), ()))):
            self.check_after(TWICE, standing, deed, expected)
            standing = expected

    def test_letter_that_is_under_way_already(self):
        standing = ((2, 0), ((1, 0), ()), ((0, 1, "a"), (0, 1, "b")), ())
        expected = ((2, 0), ((1, 1), ()), ((0, 1, "a"), (0, 1, "b")), ())
        self.check_after(TWICE, standing, ("send", 0), expected)
        standing, expected = ((2, 0), ((1, 1), ()), ((0, 1, "c"),), ()), ((2, 0), ((), ()), ((0, 1, "c"),), ())
        self.check_after(TWICE, standing, ("send", 0), expected)

    def test_late_row_is_written_behind_its_last_letter(self):
        for late, states in ((False, (3, 3, 3)), (True, (0, 0, 3))):
            agreement = with_late(TWICE, 1, 2, late)
            standing = ((0, 0), ((), ()), ((0, 1, "a"),), ())
            for deed, state in zip((("row", 1, 2), ("send", 1), ("send", 1)), states):
                standing = returned(after, agreement, standing, deed)
                self.assertEqual(standing[0], (0, state))

    def test_fall_amid_a_row_of_either_kind(self):
        for late, state in ((False, 3), (True, 0)):
            agreement = with_late(TWICE, 1, 2, late)
            standing = ((0, state), ((), (2, 1)), ((1, 0, "f"),), ())
            self.check_after(agreement, standing, ("fall", 1), ((0, state), ((), ()), ((1, 0, "f"),), (1,)))
            behind = after(agreement, standing, ("fall", 1))
            self.assertEqual(open_deeds(agreement, behind), (("fall", 0), ("row", 0, 0)))

    def test_fall_keeps_the_others(self):
        standing = ((0, 0, 0, 0), ((), (), (), ()), ((0, 3, "a"), (3, 0, "a")), (1,))
        self.check_after(FULL, standing, ("fall", 3), (standing[0], standing[1], standing[2], (1, 3)))
        self.check_after(FULL, standing, ("fall", 0), (standing[0], standing[1], standing[2], (0, 1)))
        self.check_refused(FULL, standing, ("fall", 1))

    def test_who_does_something_begins_no_row(self):
        standing = ((1, 0), ((0, 0), ()), ((1, 0, "no"), (1, 0, "ok")), ())
        self.assertEqual(open_deeds(PAIR, standing), (("fall", 0), ("fall", 1), ("send", 0)))
        late = ((1, 0), ((1, 0), ()), ((1, 0, "no"), (1, 0, "ok")), ())
        self.assertEqual(open_deeds(LATE, late), (("fall", 0), ("fall", 1), ("send", 0)))


class Led(Case):

    def test_runs(self):
        for agreement in SAMPLES:
            for seed in range(4):
                deeds = drawn_run(agreement, seed)
                standings = standings_of(agreement, deeds)
                for many in sorted({0, 1, len(deeds) // 2, len(deeds)}):
                    self.assertTrue(same(returned(led, agreement, deeds[:many]), standings[min(many, len(deeds))]))

    def test_no_deeds(self):
        for agreement in SAMPLES:
            self.assertTrue(same(returned(led, agreement, ()), begin(agreement)))

    def test_two_hundred_deeds(self):
        for late in (False, True):
            agreement = longest(late)
            deeds = drawn_run(agreement, 5, falls=0)
            self.assertEqual(len(deeds), 196)
            deeds += tuple(("fall", house) for house in (2, 0, 3, 1))
            standing = returned(led, agreement, deeds)
            self.assertEqual((standing[0], standing[1], standing[3]), ((7,) * 4, ((),) * 4, (0, 1, 2, 3)))
            self.assertEqual(standing[2], tuple(
                (a, b, word) for a in range(4) for b in range(4) if a != b for word in ("a", "b")))
            self.assertEqual(returned(open_deeds, agreement, standing), ())

    def test_first_deed_that_cannot_be_done(self):
        for agreement in SAMPLES[:20]:
            deeds = drawn_run(agreement, 2)
            standings = standings_of(agreement, deeds)
            for place in range(len(deeds) + 1):
                bad = [deed for deed in every_deed(agreement) if not Run(agreement, standings[place]).can(deed)]
                for wrong in bad[:3]:
                    row = deeds[:place] + (wrong, wrong) + deeds[place:] + (bad[-1],)
                    self.assertEqual(raised(led, agreement, row), ("Refused", {"deed": wrong}))
                    self.assertIs(outcome(led, (agreement, row), {})[2]["deed"], row[place])

    def test_deed_that_could_be_done_at_another_turn(self):
        deeds = (("row", 0, 0), ("send", 0), ("row", 1, 0), ("send", 1), ("row", 0, 1), ("send", 0), ("row", 1, 2))
        self.assertEqual(led(PAIR, deeds), ((2, 2), ((), ()), (), ()))
        for place in range(len(deeds) - 1):
            row = deeds[:place] + deeds[place + 1:]
            self.assertEqual(raised(led, PAIR, row), ("Refused", {"deed": row[place]}))
        self.assertEqual(raised(led, PAIR, deeds + deeds), ("Refused", {"deed": ("row", 0, 0)}))


class WhatHolds(Case):
    """[B6]"""

    def test_states_and_standings(self):
        for agreement in SAMPLES:
            for seed in range(3):
                standings = standings_of(agreement, drawn_run(agreement, seed))
                for one, other in zip(standings, standings[1:]):
                    self.assertTrue(all(state <= onto for state, onto in zip(one[0], other[0])))
                for standing in standings:
                    for deed in open_deeds(agreement, standing):
                        self.assertIsNone(standing_error(agreement, after(agreement, standing, deed)))

    def test_falls_left_out(self):
        fallen = 0
        for agreement in SAMPLES:
            for seed in range(12):
                deeds = drawn_run(agreement, seed)
                rest = tuple(deed for deed in deeds if deed[0] != "fall")
                whole, without = led(agreement, deeds), led(agreement, rest)
                self.assertEqual((whole[0], whole[2]), (without[0], without[2]))
                self.assertEqual(without[3], ())
                fallen += len(rest) < len(deeds)
        self.assertGreater(fallen, 200)

    def test_two_deeds_in_either_order(self):
        doubled = plain = 0
        for agreement in SAMPLES:
            standings = [at_one for seed in range(3) for at_one in standings_of(agreement, drawn_run(agreement, seed))]
            if agreement == TWICE:
                standings = list(all_standings(TWICE, 1))
            for standing in standings:
                deeds = open_deeds(agreement, standing)
                for one in deeds:
                    for other in [deed for deed in deeds if deed[1] > one[1]]:
                        doubled += self.check_orders(agreement, standing, one, other)
                        plain += 1
        self.assertGreater(doubled, 0)
        self.assertGreater(plain, 3000)

    def test_letter_that_is_doubled_or_taken_ahead(self):
        standing = ((2, 0), ((1, 0), ()), ((0, 1, "a"), (0, 1, "b")), ())
        send, row = ("send", 0), ("row", 1, 0)
        self.assertEqual(after(TWICE, after(TWICE, standing, send), row), ((2, 1), ((1, 1), ()), ((0, 1, "b"),), ()))
        self.assertEqual(after(TWICE, after(TWICE, standing, row), send),
                         ((2, 1), ((1, 1), ()), ((0, 1, "a"), (0, 1, "b")), ()))

    def check_orders(self, agreement, standing, one, other):
        """Whether a letter is doubled that one of the deeds takes."""
        first = after(agreement, after(agreement, standing, one), other)
        second = after(agreement, after(agreement, standing, other), one)
        letter = self.taken_and_sent(agreement, standing, one, other)
        if letter is None:
            self.assertEqual(first, second)
            return False
        without, beside = (first, second) if one[0] == "send" else (second, first)
        self.assertNotIn(letter, without[2])
        self.assertEqual(beside[2], tuple(sorted(without[2] + (letter,))))
        self.assertEqual((first[0], first[1], first[3]), (second[0], second[1], second[3]))
        return True

    def taken_and_sent(self, agreement, standing, one, other):
        """The letter that one of the deeds takes and the other one sends, None if there is none."""
        for row, send in ((one, other), (other, one)):
            if row[0] == "row" and send[0] == "send":
                k, sent = standing[1][send[1]]
                receiver, word = agreement[send[1]][1][k][3][sent]
                if receiver == row[1] and (send[1], word) in agreement[row[1]][1][row[2]][1]:
                    return (send[1], receiver, word)
        return None


class SameRuns(Case):
    """[H1], [H4]: whichever rows are late."""

    def latenesses(self, agreement):
        """The agreement with other rows late."""
        places = [(house, k) for house, (_, rows) in enumerate(agreement) for k in range(len(rows))]
        for pattern in (0, -1, 0b0101010101, 0b0110011001, 0b1001110010, 0b0000000001):
            other = agreement
            for at_place, (house, k) in enumerate(places):
                other = with_late(other, house, k, bool(pattern >> at_place % 10 & 1))
            yield other

    def test_same_deeds_letters_doing_and_fallen(self):
        unlike = 0
        for agreement in SAMPLES:
            for other in self.latenesses(agreement):
                for seed in range(3):
                    deeds = drawn_run(agreement, seed)
                    one, two = begin(agreement), begin(other)
                    amid = {}
                    for deed in deeds:
                        self.assertEqual(open_deeds(agreement, one), open_deeds(other, two))
                        if deed[0] == "fall":
                            amid[deed[1]] = one[1][deed[1]]
                        one, two = after(agreement, one, deed), after(other, two, deed)
                        self.assertEqual(one[1:], two[1:])
                        unlike += self.check_states(agreement, other, one, two, amid)
                    self.assertEqual(open_deeds(agreement, one), open_deeds(other, two))
        self.assertGreater(unlike, 200)

    def check_states(self, agreement, other, one, two, amid):
        """How many houses have unlike states: those that are doing a late row, or fell amid one."""
        found = 0
        for house in range(len(agreement)):
            doing = amid.get(house, one[1][house])
            late = doing and [told[house][1][doing[0]][4] for told in (agreement, other)]
            if late and late[0] != late[1]:
                state, _, onto = agreement[house][1][doing[0]][:3]
                expected = (state, onto) if late[0] else (onto, state)
                self.assertEqual((one[0][house], two[0][house]), expected)
                found += 1
            else:
                self.assertEqual(one[0][house], two[0][house])
        return found


if __name__ == "__main__":
    unittest.main()
