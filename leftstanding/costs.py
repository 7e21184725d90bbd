"""What an agreement costs: how many letters and rows lead to an end, and how many letters one behind another."""

from leftstanding.bounds import MAX_SENDS, MAX_STANDINGS
from leftstanding.errors import Refused, TooMany
from leftstanding.moving import behind, deed_error
from leftstanding.reaches import deeds_within, reach
from leftstanding.standings import begin
from leftstanding.views import kinds_now


def spent(agreement, end):
    """Return the fewest and the most letters, then rows, of the runs that end so; None if none does."""
    costs = {}
    # From the last standings on: what lies behind a standing is known when its turn comes.
    for _, standing in sorted([(_progress(agreement, own), own) for own in reach(agreement, 0)], reverse=True):
        costs[standing] = _cost_from(agreement, standing, end, costs)
    return costs[begin(agreement)]


def beats(agreement, deeds):
    """Return the greatest beat that a house has behind all of the deeds."""
    timed = _timed_begin(agreement)
    for deed in deeds:
        if deed_error(agreement, timed[0], deed) is not None:
            raise Refused(deed)
        timed = _timed_behind(agreement, timed, deed)
    return max(timed[1])


def quickest(agreement, end):
    """Return the least beats of a run that ends so; None if none does."""
    found = []
    wave = [_timed_begin(agreement)]
    met = {timed: True for timed in wave}
    while wave:
        later = []
        for timed in wave:
            deeds = deeds_within(agreement, timed[0], 0)
            if not deeds and _ends_so(agreement, timed[0], end):
                found.append(max(timed[1]))
            for deed in deeds:
                reached = _timed_behind(agreement, timed, deed)
                if reached not in met:
                    met[reached] = True
                    later.append(reached)
            if len(met) > MAX_STANDINGS:
                raise TooMany(MAX_STANDINGS)
        wave = later
    return min(found, default=None)


def _progress(agreement, standing):
    """Return an integer that each deed but a fall makes greater."""
    progress = 0
    for (_, rows), state, doing in zip(agreement, standing[0], standing[1]):
        # A state counts for one more than the letters that a row may send, as each row leads onto a greater one.
        if doing == ():
            progress += state * (MAX_SENDS + 1)
        else:
            _, _, onto, sends, _ = rows[doing[0]]
            progress += onto * (MAX_SENDS + 1) - len(sends) + doing[1]
    return progress


def _cost_from(agreement, standing, end, costs):
    """Return what the runs from this standing on cost that end so; costs tells it of those behind."""
    deeds = deeds_within(agreement, standing, 0)
    if not deeds:
        return (0, 0, 0, 0) if _ends_so(agreement, standing, end) else None
    ways = []
    for deed in deeds:
        rest = costs[behind(agreement, standing, deed)]
        if rest is not None:
            ways.append(_with_deed(rest, deed))
    if not ways:
        return None
    fewest_sends, most_sends, fewest_rows, most_rows = [[way[place] for way in ways] for place in range(4)]
    return (min(fewest_sends), max(most_sends), min(fewest_rows), max(most_rows))


def _with_deed(cost, deed):
    """Return the cost with this deed ahead."""
    fewest_sends, most_sends, fewest_rows, most_rows = cost
    if deed[0] == "send":
        return (fewest_sends + 1, most_sends + 1, fewest_rows, most_rows)
    return (fewest_sends, most_sends, fewest_rows + 1, most_rows + 1)


def _ends_so(agreement, standing, end):
    """Tell whether each house has ended so in the standing."""
    return all([now == end for now in kinds_now(agreement, standing)])


def _timed_begin(agreement):
    """Return the begin as a triple of a standing, the beats of all houses, and those of all letters under way."""
    return (begin(agreement), (0,) * len(agreement), ())


def _timed_behind(agreement, timed, deed):
    """Return the timed standing behind the deed, of which it is known that it can be done."""
    standing, own, times = timed
    reached = behind(agreement, standing, deed)
    known = dict(zip(standing[2], times))
    if deed[0] == "row":
        own = _beats_behind_row(agreement, own, known, deed[1], deed[2])
    # Only a letter that is sent is not known yet; one that was under way keeps its beat.
    later = tuple([known.get(letter, own[letter[0]] + 1) for letter in reached[2]])
    return (reached, own, later)


def _beats_behind_row(agreement, own, known, house, k):
    """Return the beats of all houses when the house has taken the letters of its row k."""
    taken = [known[(sender, house, word)] for sender, word in agreement[house][1][k][1]]
    return tuple([max([beat] + taken) if other == house else beat for other, beat in enumerate(own)])
