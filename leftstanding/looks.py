"""What a shell answers to lines that look at its desk."""

from leftstanding.books import is_place, kind
from leftstanding.costs import quickest, spent
from leftstanding.deedtexts import deeds_text
from leftstanding.errors import Unfit
from leftstanding.falls import bears, least_blocks
from leftstanding.lates import late_ones
from leftstanding.reaches import clash, road, stuck
from leftstanding.texts import agreement_text
from leftstanding.twins import twins

NONE = "none"
NEVER = "never"


def _text(desk):
    """Return the text of the agreement, in one line."""
    return agreement_text(desk.agreement).replace("\n", ";")


def _show(desk):
    """Return what is so of each house."""
    return "; ".join([_house_text(desk, house) for house in range(len(desk.agreement))])


def _open_ones(desk):
    """Return the text of the deeds that can be done."""
    return deeds_text(desk.open_ones())


def _road(desk, most):
    """Return the text of the road to the standing."""
    _check_most(desk, most)
    return _road_text(road(desk.agreement, most, desk.standing))


def _clash(desk):
    """Return the text of the road to the first clash."""
    return _road_text(clash(desk.agreement))


def _stuck(desk):
    """Return the text of the road to the first standing in which some house waits for ever."""
    return _road_text(stuck(desk.agreement))


def _end(desk, most):
    """Return the end by the table that tells "off" where it can."""
    return desk.end(most, False)


def _bold(desk, most):
    """Return the end by the table that tells "done" where it can."""
    return desk.end(most, True)


def _twins(desk, most):
    """Return the texts of the roads of two runs that are twins."""
    _check_most(desk, most)
    roads = twins(desk.agreement, most)
    if roads is None:
        return NONE
    return " / ".join([deeds_text(deeds) for deeds in roads])


def _bears(desk):
    """Return how many falls the agreement bears."""
    return str(bears(desk.agreement))


def _blocks(desk):
    """Return the least lots that block."""
    lots = least_blocks(desk.agreement)
    return _things_text([",".join([str(house) for house in lot]) if lot else "-" for lot in lots])


def _late(desk, most):
    """Return the rows any one of which may be late."""
    _check_most(desk, most)
    return _things_text([f"{house}.{k}" for house, k in late_ones(desk.agreement, most)])


def _spent(desk, end):
    """Return how many letters and rows lead to the end."""
    return _things_text([str(number) for number in spent(desk.agreement, end) or ()])


def _quick(desk, end):
    """Return how many letters one behind another lead to the end."""
    least = quickest(desk.agreement, end)
    return NONE if least is None else str(least)


def _check_most(desk, most):
    """Raise an error if not so many houses can fall."""
    if not is_place(most, len(desk.agreement)):
        raise Unfit()


def _road_text(deeds):
    """Return the text of the deeds of a road, or of none."""
    return NEVER if deeds is None else deeds_text(deeds)


def _things_text(texts):
    """Return the texts of a row of things as one."""
    return " ".join(texts) if texts else NONE


def _house_text(desk, house):
    """Return what is so of the house."""
    states, doing, letters, fallen = desk.standing
    items = [str(house), str(states[house]), kind(desk.agreement, house, states[house])]
    if house in fallen:
        items.append("fallen")
    if doing[house] != ():
        items = items + ["doing"] + [str(number) for number in doing[house]]
    return " ".join(items + [f"<{sender}.{word}" for sender, receiver, word in letters if receiver == house])


LOOKS = {
    "text": _text,
    "show": _show,
    "open": _open_ones,
    "road": _road,
    "clash": _clash,
    "stuck": _stuck,
    "end": _end,
    "bold": _bold,
    "twins": _twins,
    "bears": _bears,
    "blocks": _blocks,
    "late": _late,
    "spent": _spent,
    "quick": _quick,
}


def is_look(word):
    """Tell whether a line with this word looks at the desk."""
    return word in LOOKS


def looked(desk, word, told):
    """Return the answer to the line with this word, told being what stands behind it."""
    action = LOOKS[word]
    return action(desk, *told)
