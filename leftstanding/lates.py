"""Which rows may be late, so that their letters go ahead of the house's own writing."""

from leftstanding.books import with_late
from leftstanding.twins import twins


def late_ones(agreement, most):
    """Return the ascending tuple of the rows, as pairs (house, k), any one of which may be late, too."""
    return tuple([(house, k) for house, k in _not_late(agreement) if _bears_late(agreement, most, house, k)])


def latest(agreement, most):
    """Return the agreement in which each row, gone through once, is late if it may be, with those made late ahead."""
    for house, k in _not_late(agreement):
        if _bears_late(agreement, most, house, k):
            agreement = with_late(agreement, house, k, True)
    return agreement


def _not_late(agreement):
    """Return the ascending list of the rows, as pairs (house, k), that are not late."""
    return [(house, k) for house, (_, rows) in enumerate(agreement) for k, row in enumerate(rows) if not row[4]]


def _bears_late(agreement, most, house, k):
    """Tell whether there are no twins if this row, too, is late."""
    return twins(with_late(agreement, house, k, True), most) is None
