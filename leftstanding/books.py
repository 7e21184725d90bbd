"""Agreements: what is wrong with a value that is none, the kinds of states, and rows made late or not."""

from leftstanding.bounds import MAX_HOUSES, MAX_ROWS, MAX_SENDS, MAX_SIGNS, MAX_STATES, MAX_TAKES

# The kinds onto which a row may lead, by the kind of the state in which it begins.
ONTO_KINDS = {
    "open": ("open", "yes", "off"),
    "yes": ("yes", "done", "off"),
    "done": (),
    "off": (),
}

FIRST_KINDS = ("open", "yes")


def agreement_error(value):
    """Tell what is wrong with value as an agreement; None if it is one."""
    if not is_tuple(value, 2, MAX_HOUSES):
        return "form"
    for house, book in enumerate(value):
        error = _book_error(book, house, len(value))
        if error is not None:
            return error
    return None


def kind(agreement, house, state):
    """Return the kind of a state of the house."""
    return agreement[house][0][state]


def with_late(agreement, house, k, late):
    """Return the agreement whose row k of the house is late, or not, as told."""
    kinds, rows = agreement[house]
    row = put_at(rows[k], 4, late)
    return put_at(agreement, house, (kinds, put_at(rows, k, row)))


def put_at(items, place, item):
    """Return the tuple with this item at the place, all else being as in items."""
    return items[:place] + (item,) + items[place + 1:]


def is_an_integer(value):
    """Tell whether value is an int that is not a bool."""
    return isinstance(value, int) and not isinstance(value, bool)


def is_place(value, many):
    """Tell whether value is an integer from 0 to one less than many."""
    return is_an_integer(value) and 0 <= value < many


def is_tuple(value, least, most):
    """Tell whether value is a tuple of least to most items."""
    return isinstance(value, tuple) and least <= len(value) <= most


def is_word(value):
    """Tell whether value is a word."""
    if not isinstance(value, str) or not 1 <= len(value) <= MAX_SIGNS:
        return False
    return all(["a" <= sign <= "z" for sign in value])


def is_ascending(items):
    """Tell whether each of the items, which can be compared, is greater than the one ahead."""
    return all([one < other for one, other in zip(items, items[1:])])


def _book_error(book, house, houses):
    """Tell what is wrong with the book of the house, one of so many houses; None if nothing is."""
    if not is_tuple(book, 2, 2):
        return ("book", house)
    kinds, rows = book
    if not isinstance(kinds, tuple) or not isinstance(rows, tuple):
        return ("book", house)
    if not _are_kinds(kinds):
        return ("kinds", house)
    for k, row in enumerate(rows):
        if k == MAX_ROWS or not _is_row(row, kinds, house, houses):
            return ("row", house, k)
    return None


def _are_kinds(kinds):
    """Tell whether the tuple kinds tells the kinds of the states of a book."""
    if not is_tuple(kinds, 1, MAX_STATES):
        return False
    # A value that is no string need not be hashable: it must not be looked up.
    if not all([isinstance(told, str) and told in ONTO_KINDS for told in kinds]):
        return False
    return kinds[0] in FIRST_KINDS


def _is_row(value, kinds, house, houses):
    """Tell whether value is a row of the house, which has states of these kinds."""
    if not is_tuple(value, 5, 5):
        return False
    state, takes, onto, sends, late = value
    if not _leads(state, onto, kinds) or not isinstance(late, bool):
        return False
    if not _are_pairs(takes, MAX_TAKES, house, houses) or not _are_pairs(sends, MAX_SENDS, house, houses):
        return False
    return is_ascending(takes) and len(set(sends)) == len(sends)


def _leads(state, onto, kinds):
    """Tell whether a row may lead from state onto the state onto."""
    if not is_place(onto, len(kinds)) or not is_place(state, onto):
        return False
    return kinds[onto] in ONTO_KINDS[kinds[state]]


def _are_pairs(value, most, house, houses):
    """Tell whether value is a tuple of at most so many pairs, like and unlike, of other houses and words."""
    return is_tuple(value, 0, most) and all([_is_pair(item, house, houses) for item in value])


def _is_pair(value, house, houses):
    """Tell whether value is a pair of a house other than this one, and a word."""
    if not is_tuple(value, 2, 2):
        return False
    other, word = value
    return is_place(other, houses) and other != house and is_word(word)
