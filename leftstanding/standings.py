"""Standings: what is wrong with a value that is none, who is left, and the one in which an agreement begins."""

from leftstanding.books import is_ascending, is_place, is_tuple, is_word


def standing_error(agreement, value):
    """Tell what is wrong with value as a standing of the agreement; None if it is one."""
    houses = len(agreement)
    if not _has_form(value, houses):
        return "form"
    states, doing, letters, fallen = value
    for house, (kinds, _) in enumerate(agreement):
        if not is_place(states[house], len(kinds)):
            return ("state", house)
    for house, (_, rows) in enumerate(agreement):
        if doing[house] != () and not _is_doing(doing[house], rows, states[house]):
            return ("doing", house)
    if not all([_is_letter(letter, houses) for letter in letters]) or not is_ascending(letters):
        return "letters"
    if not _have_fallen(fallen, doing):
        return "fallen"
    return None


def begin(agreement):
    """Return the standing in which the agreement begins."""
    houses = len(agreement)
    return ((0,) * houses, ((),) * houses, (), ())


def houses_left(standing):
    """Return the ascending tuple of the houses that have not fallen."""
    states, _, _, fallen = standing
    return tuple([house for house in range(len(states)) if house not in fallen])


def _has_form(value, houses):
    """Tell whether value is a quadruple of tuples, the first two of them with an item for each house."""
    if not is_tuple(value, 4, 4) or not all([isinstance(item, tuple) for item in value]):
        return False
    return len(value[0]) == houses and len(value[1]) == houses


def _is_doing(value, rows, state):
    """Tell whether value is what a house with these rows, which is in this state, can be doing amid a row."""
    if not is_tuple(value, 2, 2):
        return False
    k, sent = value
    if not is_place(k, len(rows)):
        return False
    elder, _, onto, sends, late = rows[k]
    return is_place(sent, len(sends)) and state == (elder if late else onto)


def _is_letter(value, houses):
    """Tell whether value is a letter among so many houses."""
    if not is_tuple(value, 3, 3):
        return False
    sender, receiver, word = value
    if not is_place(sender, houses) or not is_place(receiver, houses):
        return False
    return sender != receiver and is_word(word)


def _have_fallen(value, doing):
    """Tell whether the tuple value is one of houses that have fallen, where the houses are doing this."""
    if not all([is_place(house, len(doing)) for house in value]) or not is_ascending(value):
        return False
    return all([doing[house] == () for house in value])
