"""Rows of deeds as texts, written and read."""

from leftstanding.bounds import MAX_DEEDS, MAX_HOUSES, MAX_ROWS
from leftstanding.errors import BadText

NO_DEEDS = "none"


def deeds_text(deeds):
    """Return the text of the deeds."""
    if not deeds:
        return NO_DEEDS
    return "; ".join([" ".join([str(item) for item in deed]) for deed in deeds])


def read_deeds(value):
    """Return the deeds of which value is the text."""
    if not isinstance(value, str):
        raise BadText()
    if value == NO_DEEDS:
        return ()
    texts = value.split("; ")
    if len(texts) > MAX_DEEDS:
        raise BadText()
    return tuple([_read_deed(text.split(" ")) for text in texts])


def integer_of(text, many):
    """Return the integer from 0 to one less than many of which this is the text; None if it is that of none."""
    # Looked for, not worked out: so no other way of writing it, and none of thousands of figures, is read.
    for number in range(many):
        if text == str(number):
            return number
    return None


def _read_deed(items):
    """Return the deed of which these are the items."""
    word = items[0]
    if word == "row" and len(items) == 3:
        return (word, _read_integer(items[1], MAX_HOUSES), _read_integer(items[2], MAX_ROWS))
    if word in ("send", "fall") and len(items) == 2:
        return (word, _read_integer(items[1], MAX_HOUSES))
    raise BadText()


def _read_integer(text, many):
    """Return the integer from 0 to one less than many of which this is the text."""
    number = integer_of(text, many)
    if number is None:
        raise BadText()
    return number
