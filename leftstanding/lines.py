"""The lines that a shell understands."""

from leftstanding.books import is_word
from leftstanding.deedtexts import integer_of
from leftstanding.reaches import ENDS

# What stands behind the word of each line; a line with a text is read by itself.
FORMS = {
    "make": ("MAKER", "INT"),
    "mend": ("WORD",),
    "row": ("INT", "INT"),
    "send": ("INT",),
    "fall": ("INT",),
    "later": ("INT", "INT"),
    "undo": (),
    "text": (),
    "show": (),
    "open": (),
    "road": ("INT",),
    "clash": (),
    "stuck": (),
    "end": ("INT",),
    "bold": ("INT",),
    "twins": ("INT",),
    "bears": (),
    "blocks": (),
    "late": ("INT",),
    "spent": ("END",),
    "quick": ("END",),
}

MAKERS = ("central", "three", "everyone", "chain")

# An integer has at most two figures.
MANY_INTEGERS = 100


def read_line(value):
    """Return the word of the line and the tuple of what stands behind it; None if value is no line."""
    if not isinstance(value, str):
        return None
    word, blank, rest = value.partition(" ")
    if word == "agreement" and blank:
        return (word, (rest,))
    items = value.split(" ")[1:]
    if word not in FORMS or len(items) != len(FORMS[word]):
        return None
    told = tuple([_read_item(form, item) for form, item in zip(FORMS[word], items)])
    return None if None in told else (word, told)


def _read_item(form, item):
    """Return what the item tells; None if it has not this form."""
    if form == "INT":
        return integer_of(item, MANY_INTEGERS)
    if form == "WORD":
        return item if is_word(item) else None
    return item if item in (ENDS if form == "END" else MAKERS) else None
