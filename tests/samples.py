"""Agreements and values that the tests share, and how they compare what is returned."""

import copy

KINDS = ("open", "yes", "done", "off")
YES = ("yes", "done", "off")

COIN = (
    (YES, ((0, (), 1, ((1, "do"),), False), (0, (), 2, ((1, "off"),), False))),
    (YES, ((0, ((0, "do"),), 1, (), False), (0, ((0, "off"),), 2, (), False))),
)
AGREED = (
    (KINDS, (
        (0, (), 1, ((1, "ask"),), False),
        (0, (), 3, ((1, "off"),), False),
        (1, ((1, "yes"),), 2, ((1, "do"),), False),
        (1, ((1, "no"),), 3, (), False),
    )),
    (KINDS, (
        (0, ((0, "ask"),), 1, ((0, "yes"),), False),
        (0, ((0, "ask"),), 3, ((0, "no"),), False),
        (0, ((0, "off"),), 3, (), False),
        (1, ((0, "do"),), 2, (), False),
    )),
)

FULL_TAKES = ((0, "a"), (0, "zzzzzz"), (1, "abcdef"), (3, "b"))
FULL_SENDS = ((3, "z"), (0, "zzzzzz"), (0, "a"), (3, "a"), (1, "abcdef"), (1, "a"))
FULL_KINDS = ("open", "yes", "yes", "open", "off", "done", "yes", "done")
FULL_ROWS = (
    (0, FULL_TAKES, 1, FULL_SENDS, True),
    (0, (), 3, FULL_SENDS, False),
    (0, FULL_TAKES, 4, (), False),
    (1, (), 2, (), True),
    (1, (), 4, (), False),
    (1, (), 7, (), True),
    (2, (), 4, (), False),
    (2, (), 5, (), True),
    (3, (), 6, (), False),
    (3, (), 4, (), True),
    (6, (), 7, (), False),
    (6, (), 7, (), False),
)
# Each bound that an agreement has is reached in the house 2.
FULL = (
    (("open",), ()),
    (("yes", "off"), ((0, (), 1, (), True),)),
    (FULL_KINDS, FULL_ROWS),
    (("yes", "done"), ((0, ((0, "a"), (2, "z")), 1, ((2, "b"),), False),)),
)
TRIO = COIN + ((("open", "open", "off"), ((0, ((1, "x"),), 1, ((0, "y"), (1, "y")), False), (1, (), 2, (), True))),)
AGREEMENTS = (COIN, AGREED, TRIO, FULL)


def nested(depth, inner=()):
    """A tuple in a tuple, so many deep."""
    for _ in range(depth):
        inner = (inner,)
    return inner


def any_values():
    """Values of all kinds, made anew with each call: none is an agreement, or a part of one."""
    return [
        None, True, False, -1, 9, 10 ** 399, -(10 ** 399), "", "A", "row", "house\nhouse", "x" * 20000,
        (), [], {}, [()], [0, "a"], {0: "a"}, {"open": ("yes",)}, {(0, "a"): [None]}, ({},), ([], []),
        (None, None), ((), ()), ((1,), 2, "do"), nested(20), [nested(19)], {"a": nested(18, [{}])},
        tuple(range(4000)), [True] * 4000,
    ]


def same(one, other):
    """Whether two values are equal, each part being of one class in both."""
    if one.__class__ is not other.__class__:
        return False
    if isinstance(one, (tuple, list)):
        return len(one) == len(other) and all(same(a, b) for a, b in zip(one, other))
    if isinstance(one, dict):
        return same(list(one.items()), list(other.items()))
    return one == other


def kept(call, *values):
    """What the call returns of the values, called twice; the values must be as they were afterwards."""
    before = copy.deepcopy(values)
    first = call(*values)
    again = call(*copy.deepcopy(values))
    assert same(values, before), "what was handed in was changed"
    assert same(first, again), (first, again)
    return first
