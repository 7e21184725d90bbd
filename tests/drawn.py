"""Agreements and runs that the tests draw: always the same ones, as each comes from a number of its own."""

import functools

from leftstanding.books import agreement_error
from model import Run, all_standings
from samples import (
    AGREED, COIN, DEAF, HASTY, LATE, PAIR, READY, SPREAD, SPREAD_LATE, UNLIKE, WILLING, at, central, changed, everyone,
    paths,
)

ONTO = {"open": ("open", "yes", "off"), "yes": ("yes", "done", "off"), "done": (), "off": ()}


class Draw:
    """Integers that look like chance; all of them come from the seed."""

    def __init__(self, seed):
        self.now = seed
        for _ in range(3):
            self.below(1)

    def below(self, many):
        self.now = (self.now * 6364136223846793005 + 1442695040888963407) % 2 ** 64
        return (self.now >> 33) % many

    def pick(self, items):
        return items[self.below(len(items))]

    def some(self, items, most):
        """At most so many unlike items, in a drawn order."""
        rest, found = list(items), []
        for _ in range(min(self.below(most + 1), len(rest))):
            found.append(rest.pop(self.below(len(rest))))
        return found


def drawn_agreement(seed, houses, states=4, rows=4, takes=2, sends=2, words=("a", "b")):
    """An agreement of so many houses, with at most so many states and rows of each, and letters of each row."""
    draw = Draw(seed * 5 + houses)
    books = []
    for house in range(houses):
        kinds = (draw.pick(("open", "yes")),) + tuple(draw.pick(tuple(ONTO)) for _ in range(draw.below(states)))
        books.append((kinds, tuple(drawn_rows(draw, kinds, house, houses, rows, sends, words))))
    agreement = tuple(with_takes(draw, books, house, takes) for house in range(houses))
    assert agreement_error(agreement) is None, agreement
    return agreement


def drawn_rows(draw, kinds, house, houses, rows, sends, words):
    """Rows that take nothing yet."""
    ways = [(s, o) for o in range(len(kinds)) for s in range(o) if kinds[o] in ONTO[kinds[s]]]
    pairs = [(other, word) for other in range(houses) if other != house for word in words]
    for _ in range(draw.below(rows + 1) if ways else 0):
        state, onto = draw.pick(ways)
        yield (state, (), onto, tuple(draw.some(pairs, sends)), draw.below(3) == 0)


def with_takes(draw, books, house, most):
    """The book of the house, with letters to take that others send."""
    sent = [
        (other, word)
        for other, (_, rows) in enumerate(books)
        for row in rows
        for receiver, word in row[3]
        if receiver == house
    ]
    kinds, rows = books[house]
    return (kinds, tuple(row[:1] + (tuple(sorted(draw.some(sorted(set(sent)), most))),) + row[2:] for row in rows))


def drawn_agreements(many, **told):
    """So many agreements of two, three and four houses."""
    return [drawn_agreement(seed, 2 + seed % 3, **told) for seed in range(many)]


def drawn_run(agreement, seed, most=200, falls=4):
    """Deeds that can be done one behind another, at most so many, falls among them (fewer than other deeds)."""
    draw, run, deeds = Draw(seed), Run(agreement), []
    while len(deeds) < most:
        ways = [deed for deed in run.deeds() if deed[0] != "fall"]
        if falls and (not ways or draw.below(8) == 0):
            ways = [deed for deed in run.deeds() if deed[0] == "fall"]
        if not ways:
            break
        deed = draw.pick(ways)
        falls -= deed[0] == "fall"
        run.do(deed)
        deeds.append(deed)
    return tuple(deeds)


BASES = (
    COIN, AGREED, PAIR, LATE, HASTY, DEAF, UNLIKE, SPREAD, SPREAD_LATE, WILLING, READY, central(2), central(3),
    everyone(2), everyone(3),
)


def drawn_variant(seed):
    """An agreement that is made of a real one by some small changes."""
    draw = Draw(seed)
    agreement = draw.pick(BASES)
    for _ in range(1 + draw.below(3)):
        for _ in range(100):
            other = slightly_changed(draw, agreement)
            if other != agreement and agreement_error(other) is None:
                agreement = other
                break
    return agreement


def slightly_changed(draw, agreement):
    """The value with one part changed; it may be no agreement."""
    path = draw.pick(paths(agreement))
    part = at(agreement, path)
    if isinstance(part, bool):
        return changed(agreement, path, not part)
    if isinstance(part, tuple) and part and len(path) > 1:
        place = draw.below(len(part))
        return changed(agreement, path, part[:place] + part[place + 1:])
    if isinstance(part, str):
        return changed(agreement, path, draw.pick(("open", "yes", "done", "off", "do", "no")))
    if isinstance(part, int):
        return changed(agreement, path, draw.below(4))
    return agreement


@functools.lru_cache(maxsize=None)
def small_ones(many, limit=500):
    """Real agreements, and drawn ones of both kinds, to which not more standings than the limit come."""
    drawn = tuple(drawn_variant(seed) for seed in range(many)) + tuple(drawn_agreements(many // 2))
    return tuple(dict.fromkeys(
        agreement for agreement in BASES + drawn if len(all_standings(agreement, len(agreement) - 1, limit)) <= limit
    ))
