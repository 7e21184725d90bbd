"""Which houses block the others when they fall, and how many falls an agreement bears."""

from leftstanding.reaches import reach
from leftstanding.twins import bounds_of


def blocks(agreement, fallen):
    """Tell whether those left cannot always end when just these houses have fallen."""
    return fallen in _lots_that_block(agreement, len(fallen))


def least_blocks(agreement):
    """Return the ascending tuple of all lots that block and in which no lesser one is that does."""
    lots = _lots_that_block(agreement, len(agreement) - 1)
    return tuple([lot for lot in lots if not any([_is_lesser(other, lot) for other in lots])])


def bears(agreement):
    """Return the greatest number of falls for which there are no twins; -1 if there are some without falls."""
    return min([len(lot) for lot in least_blocks(agreement)], default=len(agreement)) - 1


def _lots_that_block(agreement, most):
    """Return the ascending list of all lots of no more houses than most that block."""
    houses = list(range(len(agreement)))
    lots = {}
    for (left, _, _, _), (needed, let) in bounds_of(agreement, reach(agreement, most)).items():
        if needed and not let:
            # Standings of one view have the same houses left, so the same ones fallen.
            lots[tuple([house for house in houses if house not in left])] = True
    return sorted(lots)


def _is_lesser(one, other):
    """Tell whether the lot one has fewer houses than the other one, and only such as this one has."""
    return len(one) < len(other) and all([house in other for house in one])
