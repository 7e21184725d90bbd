"""Over the whole program: calls of all modules in a drawn order, of two agreements by turns."""

import copy
import unittest

from leftstanding.desks import Desk
from leftstanding.shells import Shell
from drawn import Draw, drawn_agreement, drawn_variant
from samples import AGREED, COIN, HASTY, LATE, PAIR, READY, SPREAD, UNLIKE, central, outcome, same
from test_desks import drawn_edits, state
from test_interface import calls_of
from test_shells import LOOKS, edit_line, text_line


def has_rows(agreement):
    """Whether each of the houses 0 and 1 has two states and a row, so that all calls can be made of it."""
    return all(len(kinds) > 1 and rows for kinds, rows in agreement[:2])


VARIANT = next(own for own in map(drawn_variant, range(5, 99)) if has_rows(own))
DRAWN = next(own for own in (drawn_agreement(seed, 3) for seed in range(99)) if has_rows(own))
PAIRS = (
    (COIN, AGREED), (PAIR, LATE), (HASTY, UNLIKE), (SPREAD, READY), (central(2), COIN),
    (VARIANT, DRAWN),
)


def shuffled(draw, items):
    rest, found = list(items), []
    while rest:
        found.append(rest.pop(draw.below(len(rest))))
    return found


def shown(found):
    """The outcome, with what a desk keeps in the place of a desk."""
    return found[:1] + tuple(state(item) if isinstance(item, Desk) else item for item in found[1:])


class OneDesk:
    """A desk and what is done on it, step by step."""

    def __init__(self, agreement):
        self.desk = Desk(agreement)
        self.steps = []
        for edit in drawn_edits(agreement, 4, 30):
            if edit == "undo":
                self.steps.append(("undo", {}))
            elif edit[0] == "late":
                self.steps.append(("make_late", {"house": edit[1], "k": edit[2]}))
            else:
                self.steps.append(("do", {"deed": edit}))
            self.steps += [("end", {"most": 1, "bold": True}), ("view", {}), ("open_ones", {}), ("do", {"deed": None})]

    def step(self, place, by_name):
        word, names = self.steps[place]
        call = getattr(self.desk, word)
        found = outcome(call, (), names) if by_name else outcome(call, tuple(names.values()), {})
        other = self.desk.copy()
        if other.version:
            other.undo()
        return found, state(self.desk)


class OneShell:
    """A shell and what is said to it, step by step."""

    def __init__(self, agreement):
        self.shell = Shell()
        edits = drawn_edits(agreement, 5, 12)
        lines = [text_line(agreement)]
        for edit in edits:
            lines += ["undo" if edit == "undo" else edit_line(edit), "x"] + list(LOOKS[:9])
        self.steps = lines + ["mend zz"] + list(LOOKS)

    def step(self, place, by_name):
        line = self.steps[place]
        return self.shell.say(line=line) if by_name else self.shell.say(line)


class Whole(unittest.TestCase):

    def test_drawn_order(self):
        for seed, (one, other) in enumerate(PAIRS):
            draw = Draw(seed)
            calls = list(calls_of(one)) + list(calls_of(other))
            alone = [shown(outcome(call, (), names)) for call, names in calls]
            kept = copy.deepcopy([names for _, names in calls])
            makers = [lambda: OneDesk(one), lambda: OneDesk(other), lambda: OneShell(one), lambda: OneShell(other)]
            expected = [[now.step(place, False) for place in range(len(now.steps))] for now in [make() for make in makers]]
            led = [make() for make in makers]
            order = shuffled(draw, list(range(len(calls))))
            turns = [(which, place) for which in range(4) for place in range(len(led[which].steps))]
            mixed = self.mixed(draw, order, turns)
            for kind, what in mixed:
                if kind == "call":
                    call, names = calls[what]
                    places = draw.below(2) == 0
                    found = outcome(call, tuple(names.values()), {}) if places else outcome(call, (), names)
                    self.assertTrue(same(shown(found), alone[what]), (call.__name__, names))
                else:
                    which, place = what
                    found = led[which].step(place, draw.below(2) == 0)
                    self.assertTrue(same(found, expected[which][place]), led[which].steps[place])
            self.assertTrue(same([names for _, names in calls], kept))

    def mixed(self, draw, order, turns):
        """All calls, and the steps of desks and shells among them, those of each one in their order."""
        left = {which: [turn for turn in turns if turn[0] == which] for which in range(4)}
        found = []
        for what in order:
            found.append(("call", what))
            for _ in range(2):
                which = draw.below(4)
                if left[which]:
                    found.append(("step", left[which].pop(0)))
        for which in left:
            found += [("step", turn) for turn in left[which]]
        return found

    def test_names_of_arguments_in_any_order(self):
        for call, names in calls_of(AGREED):
            backwards = dict(reversed(list(names.items())))
            self.assertTrue(same(shown(outcome(call, (), backwards)), shown(outcome(call, (), names))))


if __name__ == "__main__":
    unittest.main()
