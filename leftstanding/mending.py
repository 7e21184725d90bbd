"""Mending: one round of letters more ahead of each "done", so that those left can always tell."""

from leftstanding.books import is_word
from leftstanding.bounds import MAX_ROWS, MAX_SENDS, MAX_STATES
from leftstanding.errors import TooMany, Unfit


def mended(agreement, word):
    """Return the agreement in which each house tells the others by this word that it is ready ahead of "done"."""
    if not is_word(word) or word in _words(agreement):
        raise Unfit()
    books = tuple([_mended_book(agreement, house, word) for house in range(len(agreement))])
    _check_bounds(books)
    return books


def _words(agreement):
    """Return the list of the words of all letters that are taken or sent."""
    return [word for _, rows in agreement for row in rows for _, word in row[1] + row[3]]


def _mended_book(agreement, house, word):
    """Return the book of the house with the round put in."""
    kinds, rows = agreement[house]
    ready = [state for state, told in enumerate(kinds) if told == "done"]
    letters = tuple([(other, word) for other in range(len(agreement)) if other != house])
    kinds_then = tuple(["yes" if told == "done" else told for told in kinds]) + ("done",) * len(ready)
    rows_then = tuple([_with_letters(row, letters) if row[2] in ready else row for row in rows])
    ends = tuple([(state, letters, len(kinds) + place, (), False) for place, state in enumerate(ready)])
    return (kinds_then, rows_then + ends)


def _with_letters(row, letters):
    """Return the row that is not late, and sends these letters behind all others."""
    state, takes, onto, sends, _ = row
    return (state, takes, onto, sends + letters, False)


def _check_bounds(books):
    """Raise an error if there is too much in the books for an agreement."""
    if any([len(kinds) > MAX_STATES for kinds, _ in books]):
        raise TooMany(MAX_STATES)
    if any([len(rows) > MAX_ROWS for _, rows in books]):
        raise TooMany(MAX_ROWS)
    if any([len(row[3]) > MAX_SENDS for _, rows in books for row in rows]):
        raise TooMany(MAX_SENDS)
