"""Ending in two beats: those left bind themselves, and end when all left are bound."""

from leftstanding.books import is_an_integer, is_tuple, put_at
from leftstanding.errors import Refused
from leftstanding.moving import after
from leftstanding.reaches import ENDS, reach
from leftstanding.standings import houses_left
from leftstanding.twins import ends_told
from leftstanding.views import kinds_now, view


def begun(agreement, standing):
    """Return the ending that begins in the standing."""
    ends = tuple([now if now in ENDS else "" for now in kinds_now(agreement, standing)])
    return (standing, ends, ends)


def open_endings(agreement, most, bold, ending):
    """Return the ascending tuple of all deeds of endings that can be done."""
    # What the table tells is not needed here, but that there is one is.
    _ends(agreement, most, bold)
    return tuple(_open_endings(most, ending))


def ended_after(agreement, most, bold, ending, deed):
    """Return the ending behind deed, any value."""
    ends = _ends(agreement, most, bold)
    if not _can_be_done(most, ending, deed):
        raise Refused(deed)
    return _behind(agreement, ends, ending, deed)


def ends_of(agreement, most, bold, ending):
    """Return all endings that come of the ending, each once, in waves."""
    ends = _ends(agreement, most, bold)
    found = {ending: True}
    wave = [ending]
    while wave:
        later = []
        for one in wave:
            for deed in _open_endings(most, one):
                reached = _behind(agreement, ends, one, deed)
                if reached not in found:
                    found[reached] = True
                    later.append(reached)
        wave = later
    return tuple(found)


def _ends(agreement, most, bold):
    """Return the end that the table tells of each view."""
    return ends_told(agreement, reach(agreement, most), bold)


def _can_be_done(most, ending, deed):
    """Tell whether deed, any value, is a deed of endings that can be done."""
    # Asked first, as True equals 1.
    if not is_tuple(deed, 2, 2) or not is_an_integer(deed[1]):
        return False
    return deed in _open_endings(most, ending)


def _open_endings(most, ending):
    """Return the ascending list of all deeds of endings that can be done."""
    standing, bound, ended = ending
    left = houses_left(standing)
    binds = [("bind", house) for house in left if not bound[house]]
    ends = []
    if not binds:
        ends = [("end", house) for house in left if not ended[house]]
    falls = []
    if len(standing[3]) < most:
        falls = [("fall", house) for house in left]
    return binds + ends + falls


def _behind(agreement, ends, ending, deed):
    """Return the ending behind the deed, of which it is known that it can be done."""
    standing, bound, ended = ending
    word, house = deed
    if word == "fall":
        return (after(agreement, standing, deed), bound, ended)
    if word == "end":
        return (standing, bound, put_at(ended, house, bound[house]))
    return (standing, put_at(bound, house, _end_to_bind(agreement, ends, standing, bound)), ended)


def _end_to_bind(agreement, ends, standing, bound):
    """Return the end to which a house binds itself that is left and not bound."""
    for house in houses_left(standing):
        if bound[house]:
            return bound[house]
    return ends[view(agreement, standing)]
