"""What a house that has come up again may do alone, and whom it has to ask otherwise."""

from itertools import combinations

from leftstanding.books import kind
from leftstanding.reaches import ENDS, reach
from leftstanding.twins import ends_told
from leftstanding.views import view


def comes_up(agreement, most, bold, house):
    """Return for each state of the house how it may end when it comes up again in it: "never", an end, or "ask"."""
    concerning = _concerning(agreement, most, bold, house)
    return tuple([_advice(kind(agreement, house, state), rows) for state, rows in enumerate(concerning)])


def asked(agreement, most, bold, house, state):
    """Return the fewest other houses whose states tell the end, if it has to ask; None if no houses' states do."""
    rows = _concerning(agreement, most, bold, house)[state]
    if _advice(kind(agreement, house, state), rows) != "ask":
        return ()
    others = [other for other in range(len(agreement)) if other != house]
    for many in range(1, len(agreement)):
        for some in combinations(others, many):
            if _tell_the_end(some, rows):
                return some
    return None


def _concerning(agreement, most, bold, house):
    """Return for each state of the house the states of all and the end, of each standing that concerns it so."""
    standings = reach(agreement, most)
    ends = ends_told(agreement, standings, bold)
    concerning = [[] for _ in agreement[house][0]]
    for standing in standings:
        states, _, _, fallen = standing
        # In these another house is always left: most is less than the number of houses.
        if house in fallen or len(fallen) < most:
            concerning[states[house]].append((states, ends[view(agreement, standing)]))
    return concerning


def _advice(own, rows):
    """Return what a house may do that comes up in a state of this kind, by the rows that concern it."""
    if not rows:
        return "never"
    if own in ENDS:
        return own
    _, first = rows[0]
    return first if all([end == first for _, end in rows]) else "ask"


def _tell_the_end(houses, rows):
    """Tell whether rows in which these houses have the same states have the same end."""
    told = {}
    for states, end in rows:
        if told.setdefault(tuple([states[house] for house in houses]), end) != end:
            return False
    return True
