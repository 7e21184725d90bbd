"""Deeds: which of them can be done in a standing, and the standing behind them."""

from leftstanding.books import is_place, is_tuple, put_at
from leftstanding.errors import Refused
from leftstanding.standings import begin, houses_left


def deed_error(agreement, standing, value):
    """Tell what is wrong with value as a deed that can be done in the standing; None if it is one."""
    if not _is_deed(agreement, value):
        return "form"
    if not _can_be_done(agreement, standing, value):
        return "bar"
    return None


def open_deeds(agreement, standing):
    """Return the ascending tuple of all deeds that can be done in the standing."""
    _, doing, _, _ = standing
    left = houses_left(standing)
    idle = [house for house in left if doing[house] == ()]
    falls = [("fall", house) for house in left]
    rows = [("row", house, k) for house in idle for k in _open_rows(agreement, standing, house)]
    sends = [("send", house) for house in left if doing[house] != ()]
    return tuple(falls + rows + sends)


def after(agreement, standing, deed):
    """Return the standing behind the deed."""
    if deed_error(agreement, standing, deed) is not None:
        raise Refused(deed)
    return behind(agreement, standing, deed)


def led(agreement, deeds):
    """Return the standing behind all of the deeds, done one behind another from the begin."""
    standing = begin(agreement)
    for deed in deeds:
        standing = after(agreement, standing, deed)
    return standing


def behind(agreement, standing, deed):
    """Return the standing behind the deed, of which it is known that it can be done."""
    if deed[0] == "row":
        return _behind_row(agreement, standing, deed[1], deed[2])
    if deed[0] == "send":
        return _behind_send(agreement, standing, deed[1])
    return _behind_fall(standing, deed[1])


def _is_deed(agreement, value):
    """Tell whether value is a deed of the agreement, whether or not it can be done."""
    if not is_tuple(value, 2, 3) or not is_place(value[1], len(agreement)):
        return False
    if len(value) == 2:
        return value[0] in ("send", "fall")
    _, rows = agreement[value[1]]
    return value[0] == "row" and is_place(value[2], len(rows))


def _can_be_done(agreement, standing, deed):
    """Tell whether the deed, one of the agreement, can be done in the standing."""
    _, doing, _, fallen = standing
    house = deed[1]
    if house in fallen:
        return False
    if deed[0] == "row":
        return doing[house] == () and deed[2] in _open_rows(agreement, standing, house)
    return deed[0] == "fall" or doing[house] != ()


def _open_rows(agreement, standing, house):
    """Return the ascending list of the rows that the house, which is left and does nothing, can begin."""
    states, _, letters, _ = standing
    found = []
    for k, (state, takes, _, _, _) in enumerate(agreement[house][1]):
        if state == states[house] and all([(sender, house, word) in letters for sender, word in takes]):
            found.append(k)
    return found


def _behind_row(agreement, standing, house, k):
    """Return the standing in which the house has begun its row k."""
    states, doing, letters, fallen = standing
    _, takes, onto, sends, late = agreement[house][1][k]
    taken = [(sender, house, word) for sender, word in takes]
    letters = tuple([letter for letter in letters if letter not in taken])
    if sends:
        doing = put_at(doing, house, (k, 0))
    if not sends or not late:
        states = put_at(states, house, onto)
    return (states, doing, letters, fallen)


def _behind_send(agreement, standing, house):
    """Return the standing in which the house has sent the next letter of the row that it is doing."""
    states, doing, letters, fallen = standing
    k, sent = doing[house]
    _, _, onto, sends, _ = agreement[house][1][k]
    receiver, word = sends[sent]
    letter = (house, receiver, word)
    if letter not in letters:
        letters = tuple(sorted(letters + (letter,)))
    if sent + 1 < len(sends):
        doing = put_at(doing, house, (k, sent + 1))
    else:
        doing = put_at(doing, house, ())
        states = put_at(states, house, onto)
    return (states, doing, letters, fallen)


def _behind_fall(standing, house):
    """Return the standing in which the house has fallen."""
    states, doing, letters, fallen = standing
    return (states, put_at(doing, house, ()), letters, tuple(sorted(fallen + (house,))))
