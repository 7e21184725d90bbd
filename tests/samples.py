"""Agreements and values that the tests share, and how they compare what is returned."""

import copy

from leftstanding.errors import LeftError

KINDS = ("open", "yes", "done", "off")
YES = ("yes", "done", "off")

COIN = (
    (YES, ((0, (), 1, ((1, "do"),), False), (0, (), 2, ((1, "off"),), False))),
    (YES, ((0, ((0, "do"),), 1, (), False), (0, ((0, "off"),), 2, (), False))),
)
AGREED = (
    (KINDS, (
        (0, (), 1, ((1, "ask"),), False),
        (0, (), 3, ((1, "off"),), False),
        (1, ((1, "yes"),), 2, ((1, "do"),), False),
        (1, ((1, "no"),), 3, (), False),
    )),
    (KINDS, (
        (0, ((0, "ask"),), 1, ((0, "yes"),), False),
        (0, ((0, "ask"),), 3, ((0, "no"),), False),
        (0, ((0, "off"),), 3, (), False),
        (1, ((0, "do"),), 2, (), False),
    )),
)

FULL_TAKES = ((0, "a"), (0, "zzzzzz"), (1, "abcdef"), (3, "b"))
FULL_SENDS = ((3, "z"), (0, "zzzzzz"), (0, "a"), (3, "a"), (1, "abcdef"), (1, "a"))
FULL_KINDS = ("open", "yes", "yes", "open", "off", "done", "yes", "done")
FULL_ROWS = (
    (0, FULL_TAKES, 1, FULL_SENDS, True),
    (0, (), 3, FULL_SENDS, False),
    (0, FULL_TAKES, 4, (), False),
    (1, (), 2, (), True),
    (1, (), 4, (), False),
    (1, (), 7, (), True),
    (2, (), 4, (), False),
    (2, (), 5, (), True),
    (3, (), 6, (), False),
    (3, (), 4, (), True),
    (6, (), 7, (), False),
    (6, (), 7, (), False),
)
# Each bound that an agreement has is reached in the house 2.
FULL = (
    (("open",), ()),
    (("yes", "off"), ((0, (), 1, (), True),)),
    (FULL_KINDS, FULL_ROWS),
    (("yes", "done"), ((0, ((0, "a"), (2, "z")), 1, ((2, "b"),), False),)),
)
TRIO = COIN + ((("open", "open", "off"), ((0, ((1, "x"),), 1, ((0, "y"), (1, "y")), False), (1, (), 2, (), True))),)
AGREEMENTS = (COIN, AGREED, TRIO, FULL)

ASKS = (KINDS, (
    (0, (), 1, ((1, "ask"),), False),
    (1, ((1, "ok"),), 2, ((1, "do"),), False),
    (1, ((1, "no"),), 3, (), False),
))
TELLS = (KINDS, (
    (0, ((0, "ask"),), 1, ((0, "ok"),), False),
    (0, ((0, "ask"),), 3, ((0, "no"),), False),
    (1, ((0, "do"),), 2, (), False),
))
PAIR = (ASKS, TELLS)
LATE = ((KINDS, (ASKS[1][0], ASKS[1][1][:4] + (True,), ASKS[1][2])), TELLS)
HASTY = ((KINDS, ((0, (), 1, ((1, "ask"),), False), (1, (), 2, (), False))), TELLS)
DEAF = ((KINDS, ASKS[1][:2]), TELLS)

LONE = (("open",) * 8, tuple((state, (), state + 1, (), False) for state in range(7)))


def longest(late):
    """Four houses, each of which does seven rows of six letters: no agreement has a run of more deeds."""
    books = []
    for house in range(4):
        others = [other for other in range(4) if other != house]
        sends = tuple((other, word) for word in ("b", "a") for other in others)
        books.append((("yes",) * 8, tuple((state, (), state + 1, sends, late) for state in range(7))))
    return tuple(books)


UNLIKE = ((("yes", "done"), ((0, (), 1, (), False),)), (("yes", "off"), ((0, (), 1, (), False),)))
SPREAD = (
    (YES, ((0, (), 1, ((1, "do"), (2, "do")), False), (0, (), 2, ((1, "off"), (2, "off")), False))), COIN[1], COIN[1],
)


# They clash, and too many standings come.
CLASHING = UNLIKE + longest(False)[2:]
# The house 0 writes its end behind its last letter only.
SPREAD_LATE = ((YES, tuple(row[:4] + (True,) for row in SPREAD[0][1])),) + SPREAD[1:]
# Nobody can end "off".
WILLING = ((("yes", "done"), ((0, (), 1, ((1, "do"), (3, "do")), False),)),) + (
    (("yes", "done"), ((0, ((0, "do"),), 1, (), False),)),) * 3
# Nobody ends "done" before both are ready.
READY = (
    (("open", "yes", "yes", "done", "off"), (
        (0, (), 1, ((1, "ask"),), False), (0, (), 4, ((1, "off"),), False),
        (1, ((1, "yes"),), 2, ((1, "ready"),), False), (1, ((1, "no"),), 4, (), False),
        (2, ((1, "got"),), 3, ((1, "done"),), False),
    )),
    (("open", "yes", "yes", "done", "off"), (
        (0, ((0, "ask"),), 1, ((0, "yes"),), False), (0, ((0, "ask"),), 4, ((0, "no"),), False),
        (0, ((0, "off"),), 4, (), False), (1, ((0, "ready"),), 2, ((0, "got"),), False),
        (2, ((0, "done"),), 3, (), False),
    )),
)


def central(houses):
    """The house 0 asks all others, and tells them."""
    others = range(1, houses)
    zero = [(0, (), 1, to(others, "ask"), False), (0, (), 3, to(others, "off"), False)]
    zero += [(1, to(others, "yes"), 2, to(others, "done"), False)]
    zero += [(1, ((house, "no"),), 3, to(others, "off"), False) for house in others]
    other = (
        (0, ((0, "ask"),), 1, ((0, "yes"),), False), (0, ((0, "ask"),), 3, ((0, "no"),), False),
        (0, ((0, "off"),), 3, (), False), (1, ((0, "done"),), 2, (), False), (1, ((0, "off"),), 3, (), False),
    )
    return ((KINDS, tuple(zero)),) + ((KINDS, other),) * (houses - 1)


def everyone(houses):
    """Each house tells all others."""
    books = []
    for own in range(houses):
        others = [house for house in range(houses) if house != own]
        rows = [(0, (), 1, to(others, "yes"), False), (0, (), 3, to(others, "no"), False)]
        rows += [(1, to(others, "yes"), 2, (), False)]
        rows += [(1, ((house, "no"),), 3, (), False) for house in others]
        books.append((KINDS, tuple(rows)))
    return tuple(books)


def to(houses, word):
    return tuple((house, word) for house in houses)


def line(house, steps):
    """A book that goes through so many standings and one more, and sends the house told letters that nobody takes."""
    rows, state = [], 0
    while steps:
        many = min(6, steps - 1)
        rows.append((state, (), state + 1, tuple((house, "abcdefgh"[state] + "abcdef"[k]) for k in range(many)), False))
        state, steps = state + 1, steps - 1 - many
    return (("open",) * (state + 1), tuple(rows))


def full_reach(more):
    """An agreement of four houses to which just 4000 standings come without falls, or just one more."""
    short = (("open",) * 4, (
        (0, (), 1, (), False), (1, (), 2, (), False), (2, (), 3, ((3, "go"),), False),
    ))
    kinds, rows = line(0, 31)
    last = len(kinds) - 1
    rows += ((last, ((0, "go"), (1, "go"), (2, "go")), last + 1, (), False),)
    return (short, short, short, (kinds + ("open",), rows[:len(rows) - 1 + more]))


# The modules, their functions, and the names of the arguments, as the document tells them.
INTERFACE = {
    "books": {
        "agreement_error": "value",
        "kind": "agreement house state",
        "with_late": "agreement house k late",
    },
    "texts": {"agreement_text": "agreement", "read_agreement": "value"},
    "standings": {"standing_error": "agreement value", "begin": "agreement"},
    "moving": {
        "deed_error": "agreement standing value",
        "open_deeds": "agreement standing",
        "after": "agreement standing deed",
        "led": "agreement deeds",
    },
    "deedtexts": {"deeds_text": "deeds", "read_deeds": "value"},
    "reaches": {
        "reach": "agreement most",
        "road": "agreement most standing",
        "clash": "agreement",
        "stuck": "agreement",
    },
    "views": {"view": "agreement standing", "must": "agreement standing", "may": "agreement standing"},
    "twins": {
        "twins": "agreement most",
        "twins_error": "agreement most value",
        "table": "agreement most bold",
        "rule_error": "agreement most value",
    },
    "endings": {
        "begun": "agreement standing",
        "open_endings": "agreement most bold ending",
        "ended_after": "agreement most bold ending deed",
        "ends_of": "agreement most bold ending",
    },
    "falls": {"blocks": "agreement fallen", "least_blocks": "agreement", "bears": "agreement"},
    "returns": {"comes_up": "agreement most bold house", "asked": "agreement most bold house state"},
    "lates": {"late_ones": "agreement most", "latest": "agreement most"},
    "mending": {"mended": "agreement word"},
    "costs": {"spent": "agreement end", "beats": "agreement deeds", "quickest": "agreement end"},
    "makers": {"central": "n", "central_three": "n", "everyone": "n", "chain": "n"},
    "desks": {"desk_behind": "agreement log"},
}
# The classes, and their methods and properties.
CLASSES = {
    "desks": {"Desk": {
        "__init__": "self agreement",
        "do": "self deed",
        "make_late": "self house k",
        "undo": "self",
        "open_ones": "self",
        "view": "self",
        "end": "self most bold",
        "copy": "self",
        "__eq__": "self other",
    }},
    "shells": {"Shell": {"__init__": "self", "say": "self line"}},
}
PROPERTIES = ("agreement", "standing", "version", "log")
ARGUMENTS = {name: names for functions in INTERFACE.values() for name, names in functions.items()}


def nested(depth, inner=()):
    """A tuple in a tuple, so many deep."""
    for _ in range(depth):
        inner = (inner,)
    return inner


def any_values():
    """Values of all kinds, made anew with each call: none is an agreement, or a part of one."""
    return [
        None, True, False, -1, 9, 10 ** 399, -(10 ** 399), "", "A", "row", "house\nhouse", "x" * 20000,
        (), [], {}, [()], [0, "a"], {0: "a"}, {"open": ("yes",)}, {(0, "a"): [None]}, ({},), ([], []),
        (None, None), ((), ()), ((1,), 2, "do"), nested(20), [nested(19)], {"a": nested(18, [{}])},
        tuple(range(4000)), [True] * 4000,
    ]


def same(one, other):
    """Whether two values are equal, each part being of one class in both."""
    if one.__class__ is not other.__class__:
        return False
    if isinstance(one, (tuple, list)):
        return len(one) == len(other) and all(same(a, b) for a, b in zip(one, other))
    if isinstance(one, dict):
        return same(list(one.items()), list(other.items()))
    return one == other


def kept(call, *values):
    """What the call returns of the values, called twice; the values must be as they were afterwards."""
    before = copy.deepcopy(values)
    first = call(*values)
    again = call(*copy.deepcopy(values))
    assert same(values, before), "what was handed in was changed"
    assert same(first, again), (first, again)
    return first


def paths(value):
    """The places, as tuples of indexes, of all that stands in nested tuples."""
    found = [()]
    if isinstance(value, tuple):
        for place, item in enumerate(value):
            found += [(place,) + path for path in paths(item)]
    return found


def at(value, path):
    for place in path:
        value = value[place]
    return value


def changed(value, path, new):
    """The nested tuples with the new item at this path."""
    if not path:
        return new
    place = path[0]
    return value[:place] + (changed(value[place], path[1:], new),) + value[place + 1:]


def outcome(call, places, names):
    """What the call returns, or the class and the fields of the LeftError that it raises."""
    try:
        return ("returns", call(*places, **names))
    except LeftError as error:
        return ("raises", error.__class__.__name__, vars(error))


def told(call, *values):
    """The outcome of the call, by place and by names, and once more with equal values; these must stay as they are."""
    before = copy.deepcopy(values)
    first = outcome(call, values, {})
    names = dict(reversed(list(zip(ARGUMENTS[call.__name__].split(), values, strict=True))))
    for again in (outcome(call, (), names), outcome(call, copy.deepcopy(values), {})):
        assert same(first, again), (first, again)
    assert same(values, before), "what was handed in was changed"
    return first


def returned(call, *values):
    """What the call returns, looked at as told does."""
    found = told(call, *values)
    assert found[0] == "returns", found
    return found[1]


def raised(call, *values):
    """The name of the class of the error that the call raises, and its fields, looked at as told does."""
    found = told(call, *values)
    assert found[0] == "raises", found
    return found[1:]
