"""Agreements as texts, written and read."""

from leftstanding.books import agreement_error
from leftstanding.errors import BadText

# An agreement has no integer of more than one figure.
FIGURES = {"0": 0, "1": 1, "2": 2, "3": 3, "4": 4, "5": 5, "6": 6, "7": 7, "8": 8, "9": 9}


def agreement_text(agreement):
    """Return the text of the agreement."""
    return "\n".join([_book_text(kinds, rows) for kinds, rows in agreement])


def read_agreement(value):
    """Return the agreement of which value is the text."""
    if not isinstance(value, str):
        raise BadText()
    agreement = _read_books(value.split("\n"))
    # What reads as an agreement is its text only if it is written just so: it need not be read strictly.
    if agreement_error(agreement) is not None or agreement_text(agreement) != value:
        raise BadText()
    return agreement


def _book_text(kinds, rows):
    """Return the lines of a book."""
    return "\n".join([" ".join(("house",) + kinds)] + [_row_text(row) for row in rows])


def _row_text(row):
    """Return the line of a row."""
    state, takes, onto, sends, late = row
    items = ["row", str(state), str(onto)]
    items = items + [f"<{house}.{word}" for house, word in takes]
    items = items + [f">{house}.{word}" for house, word in sends]
    if late:
        items.append("late")
    return " ".join(items)


def _read_books(lines):
    """Return the books of which these seem to be the lines."""
    books = []
    for line in lines:
        items = line.split(" ")
        if items[0] == "house":
            books.append((tuple(items[1:]), ()))
        elif items[0] == "row" and books and len(items) > 2:
            kinds, rows = books.pop()
            books.append((kinds, rows + (_read_row(items[1:]),)))
        else:
            raise BadText()
    return tuple(books)


def _read_row(items):
    """Return the row of which these seem to be the items, without the word ahead."""
    rest = items[2:]
    takes = tuple([_read_pair(item) for item in rest if item.startswith("<")])
    sends = tuple([_read_pair(item) for item in rest if item.startswith(">")])
    return (FIGURES.get(items[0]), takes, FIGURES.get(items[1]), sends, "late" in rest)


def _read_pair(item):
    """Return the house and the word of which this seems to be the text, behind its first sign."""
    house, _, word = item[1:].partition(".")
    return (FIGURES.get(house), word)
