"""A desk keeps an agreement and a standing of it; edits are done one by one, and can be taken back."""

from leftstanding.books import agreement_error, is_place, is_tuple, with_late
from leftstanding.bounds import MAX_EDITS
from leftstanding.errors import BadAgreement, BadLog, LeftError, NothingToUndo, Refused, TooManyEdits, Unfit
from leftstanding.moving import behind, deed_error, open_deeds
from leftstanding.reaches import reach
from leftstanding.standings import begin
from leftstanding.twins import ends_told
from leftstanding.views import view

LATE = "late"


class Desk:
    """An agreement, a standing of it, and the edits that led there."""

    def __init__(self, agreement):
        error = agreement_error(agreement)
        if error is not None:
            raise BadAgreement(error)
        self._agreement = agreement
        self._standing = begin(agreement)
        self._log = ()
        # The agreement and the standing ahead of each edit of the log.
        self._past = ()

    def __eq__(self, other):
        return isinstance(other, Desk) and self._agreement == other._agreement and self._standing == other._standing

    @property
    def agreement(self):
        """The agreement as it is now."""
        return self._agreement

    @property
    def standing(self):
        """The standing as it is now."""
        return self._standing

    @property
    def version(self):
        """How many edits stand."""
        return len(self._log)

    @property
    def log(self):
        """The edits that stand, in order."""
        return self._log

    def do(self, deed):
        """Do the deed, any value, and return the new version."""
        if deed_error(self._agreement, self._standing, deed) is not None:
            raise Refused(deed)
        return self._edited(deed, self._agreement, behind(self._agreement, self._standing, deed))

    def make_late(self, house, k):
        """Make the row k of the house late from now on, and return the new version."""
        if not is_place(house, len(self._agreement)):
            raise Unfit()
        _, rows = self._agreement[house]
        if not is_place(k, len(rows)) or rows[k][4] or self._standing[1][house][:1] == (k,):
            raise Unfit()
        return self._edited((LATE, house, k), with_late(self._agreement, house, k, True), self._standing)

    def undo(self):
        """Take back the last edit that stands, and return the version then."""
        if not self._past:
            raise NothingToUndo()
        self._agreement, self._standing = self._past[-1]
        self._log = self._log[:-1]
        self._past = self._past[:-1]
        return len(self._log)

    def open_ones(self):
        """Return the ascending tuple of all deeds that can be done now."""
        return open_deeds(self._agreement, self._standing)

    def view(self):
        """Return what those left can know of the standing."""
        return view(self._agreement, self._standing)

    def end(self, most, bold):
        """Return the end that the table for so many falls tells of what those left can know."""
        if not is_place(most, len(self._agreement)) or not isinstance(bold, bool):
            raise Unfit()
        standings = reach(self._agreement, most)
        ends = ends_told(self._agreement, standings, bold)
        # It may look like one that comes; but one in which nobody is left never comes.
        if self._standing not in standings:
            raise Unfit()
        return ends[view(self._agreement, self._standing)]

    def copy(self):
        """Return a desk with the same agreement, standing and edits."""
        desk = Desk(self._agreement)
        desk._standing = self._standing
        desk._log = self._log
        desk._past = self._past
        return desk

    def _edited(self, edit, agreement, standing):
        """Let the edit stand, with the agreement and the standing behind it, and return the new version."""
        if len(self._log) >= MAX_EDITS:
            raise TooManyEdits()
        self._past = self._past + ((self._agreement, self._standing),)
        self._log = self._log + (edit,)
        self._agreement = agreement
        self._standing = standing
        return len(self._log)


def desk_behind(agreement, log):
    """Return a new desk on which the edits of log, any value, were done one behind another."""
    desk = Desk(agreement)
    if not isinstance(log, tuple):
        raise BadLog(-1)
    for place, item in enumerate(log):
        try:
            _do_edit(desk, item)
        except LeftError:
            raise BadLog(place) from None
    return desk


def _do_edit(desk, item):
    """Do the edit that is told by an item of a log."""
    if is_tuple(item, 3, 3) and item[0] == LATE:
        desk.make_late(item[1], item[2])
    else:
        desk.do(item)
