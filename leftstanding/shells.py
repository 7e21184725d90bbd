"""A shell sets up desks, edits them and looks at them, by lines of text."""

from leftstanding.bounds import MAX_HOUSES
from leftstanding.desks import Desk
from leftstanding.errors import BadText, NothingToUndo, Refused, TooMany, TooManyEdits, Unfit
from leftstanding.lines import read_line
from leftstanding.looks import is_look, looked
from leftstanding.makers import central, central_three, chain, everyone
from leftstanding.mending import mended
from leftstanding.texts import read_agreement


class Shell:
    """A desk, at first none, that is led by lines."""

    def __init__(self):
        self._desk = None

    def say(self, line):
        """Do what the line, any value, tells, and return the answer."""
        told = read_line(line)
        if told is None:
            return "what"
        word, items = told
        if self._desk is None and word not in ("agreement", "make"):
            return "no desk"
        try:
            return self._answer(word, items)
        except Unfit:
            return "error Unfit"
        except BadText:
            return "error BadText"
        except Refused:
            return "error Refused"
        except TooMany:
            return "error TooMany"
        except TooManyEdits:
            return "error TooManyEdits"
        except NothingToUndo:
            return "error NothingToUndo"

    def _answer(self, word, items):
        """Do what the line tells, and return the answer if no error is raised."""
        if is_look(word):
            return looked(self._desk, word, items)
        if word == "agreement":
            self._desk = Desk(_read_text(items[0]))
        elif word == "make":
            self._desk = Desk(_made(items[0], items[1]))
        elif word == "mend":
            self._desk = Desk(mended(self._desk.agreement, items[0]))
        else:
            _edit(self._desk, word, items)
        return f"version {self._desk.version}"


def _read_text(text):
    """Return the agreement of which this is the text, in one line."""
    if "\n" in text:
        raise BadText()
    return read_agreement(text.replace(";", "\n"))


def _made(maker, n):
    """Return the agreement of the maker for so many houses."""
    if not 2 <= n <= MAX_HOUSES:
        raise Unfit()
    if maker == "central":
        return central(n)
    if maker == "three":
        return central_three(n)
    if maker == "everyone":
        return everyone(n)
    return chain(n)


def _edit(desk, word, items):
    """Edit the desk as the line tells."""
    if word == "undo":
        desk.undo()
    elif word == "later":
        desk.make_late(items[0], items[1])
    else:
        desk.do((word,) + items)
