"""What those left can know of a standing, and which ends it lets."""

from leftstanding.books import kind
from leftstanding.errors import Unfit
from leftstanding.standings import houses_left


def view(agreement, standing):
    """Return what those left can know of the standing at the most."""
    states, doing, letters, _ = standing
    left = houses_left(standing)
    if not left:
        raise Unfit()
    return (
        left,
        tuple([states[house] for house in left]),
        tuple([doing[house] for house in left]),
        tuple([letter for letter in letters if letter[1] in left]),
    )


def must(agreement, standing):
    """Tell whether some house has ended "done"."""
    return "done" in kinds_now(agreement, standing)


def may(agreement, standing):
    """Tell whether each house has said yes and none has ended "off"."""
    return all([now in ("yes", "done") for now in kinds_now(agreement, standing)])


def kinds_now(agreement, standing):
    """Return the list of the kinds of the states in which the houses are."""
    return [kind(agreement, house, state) for house, state in enumerate(standing[0])]
