"""Twin runs, which look alike to those left and forbid one another's end, and tables of ends where there are none."""

from leftstanding.books import is_an_integer, is_tuple
from leftstanding.bounds import MAX_DEEDS
from leftstanding.errors import Unfit
from leftstanding.moving import behind, deed_error
from leftstanding.reaches import ENDS, origins_of, reach, road_in
from leftstanding.standings import begin
from leftstanding.views import may, must, view

# A view is a tuple of tuples of tuples; what is nested deeper is none.
VIEW_DEPTH = 3


def twins(agreement, most):
    """Return the roads to the first standings that are twins; None if there are none."""
    origins = origins_of(agreement, most)
    forbidden = {}
    for standing in origins:
        if not may(agreement, standing):
            forbidden.setdefault(view(agreement, standing), standing)
    for standing in origins:
        if must(agreement, standing):
            twin = forbidden.get(view(agreement, standing))
            if twin is not None:
                return (road_in(origins, standing), road_in(origins, twin))
    return None


def twins_error(agreement, most, value):
    """Tell what is wrong with value as a pair of roads to twins; None if it is one."""
    if not is_tuple(value, 2, 2) or not all([is_tuple(deeds, 0, MAX_DEEDS) for deeds in value]):
        return "form"
    ends = []
    for which, deeds in enumerate(value):
        standing = begin(agreement)
        for place, deed in enumerate(deeds):
            if not _leads_on(agreement, most, standing, deed):
                return ("deed", which, place)
            standing = behind(agreement, standing, deed)
        ends.append(standing)
    first, second = ends
    if view(agreement, first) != view(agreement, second):
        return "views"
    if not must(agreement, first) or may(agreement, second):
        return "ends"
    return None


def table(agreement, most, bold):
    """Return the right rule that tells "done" where it has to, or, if bold, wherever it is let."""
    ends = ends_told(agreement, reach(agreement, most), bold)
    return tuple([(seen, ends[seen]) for seen in sorted(ends)])


def rule_error(agreement, most, value):
    """Tell what is wrong with value as a right rule; None if it is one."""
    bounds = bounds_of(agreement, reach(agreement, most))
    if not isinstance(value, tuple) or not all([is_tuple(pair, 2, 2) for pair in value]):
        return "form"
    told = {}
    for place, (seen, end) in enumerate(value):
        # Asked first: a value that is no such tuple cannot be looked up, or equals a view though it is none.
        if not _may_be_view(seen, VIEW_DEPTH) or seen not in bounds or seen in told or end not in ENDS:
            return ("view", place)
        told[seen] = end
    for seen in sorted(bounds):
        if seen not in told:
            return ("lacks", seen)
    for place, (seen, end) in enumerate(value):
        needed, let = bounds[seen]
        if (end == "off" and needed) or (end == "done" and not let):
            return ("wrong", place)
    return None


def bounds_of(agreement, standings):
    """Return for each view of the standings whether "done" is needed for one of these, and let for all."""
    bounds = {}
    for standing in standings:
        seen = view(agreement, standing)
        needed, let = bounds.get(seen, (False, True))
        bounds[seen] = (needed or must(agreement, standing), let and may(agreement, standing))
    return bounds


def ends_told(agreement, standings, bold):
    """Return the end that the table tells of each view, the standings being all that come."""
    bounds = bounds_of(agreement, standings)
    if any([needed and not let for needed, let in bounds.values()]):
        raise Unfit()
    return {seen: "done" if needed or (bold and let) else "off" for seen, (needed, let) in bounds.items()}


def _leads_on(agreement, most, standing, deed):
    """Tell whether deed, any value, can be done in the standing, so that no more houses than most have fallen."""
    if deed_error(agreement, standing, deed) is not None:
        return False
    return deed[0] != "fall" or len(standing[3]) < most


def _may_be_view(value, depth):
    """Tell whether value consists of integers and strings, in tuples nested no deeper than told."""
    if isinstance(value, tuple):
        return depth > 0 and all([_may_be_view(item, depth - 1) for item in value])
    return isinstance(value, str) or is_an_integer(value)
