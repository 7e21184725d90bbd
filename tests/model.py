"""Runs, worked out once more in another way than the program's: houses that change, and a bag of letters."""

import functools


def every_deed(agreement):
    """All deeds of the agreement, ascending, whether or not they can be done."""
    houses = range(len(agreement))
    rows = [("row", house, k) for house in houses for k in range(len(agreement[house][1]))]
    return sorted(rows + [(word, house) for word in ("send", "fall") for house in houses])


class House:

    def __init__(self, state, doing, rows):
        self.state = state
        self.k = doing[0] if doing else None
        self.rest = list(rows[doing[0]][3][doing[1]:]) if doing else []
        self.left = True


class Run:
    """A run of an agreement, from its begin or from a standing."""

    def __init__(self, agreement, standing=None):
        houses = len(agreement)
        states, doing, letters, fallen = standing or ((0,) * houses, ((),) * houses, (), ())
        self.rows = [rows for _, rows in agreement]
        self.houses = [House(states[house], doing[house], self.rows[house]) for house in range(houses)]
        self.letters = set(letters)
        self.agreement = agreement
        for house in fallen:
            self.houses[house].left = False

    def can(self, deed):
        own = self.houses[deed[1]]
        if deed[0] != "row":
            return own.left and (deed[0] == "fall" or own.rest != [])
        state, takes = self.rows[deed[1]][deed[2]][:2]
        return own.left and own.rest == [] and own.state == state and self.taken(deed[1], takes) <= self.letters

    def taken(self, house, takes):
        return {(sender, house, word) for sender, word in takes}

    def deeds(self):
        return [deed for deed in every_deed(self.agreement) if self.can(deed)]

    def do(self, deed):
        own = self.houses[deed[1]]
        if deed[0] == "fall":
            own.left, own.rest = False, []
        if deed[0] == "row":
            own.k = deed[2]
            _, takes, onto, sends, late = self.rows[deed[1]][deed[2]]
            self.letters -= self.taken(deed[1], takes)
            own.rest = list(sends)
            if not late or not sends:
                own.state = onto
        if deed[0] == "send":
            self.letters.add((deed[1],) + own.rest.pop(0))
            if not own.rest:
                own.state = self.rows[deed[1]][own.k][2]

    def doing(self, house):
        own = self.houses[house]
        return (own.k, len(self.rows[house][own.k][3]) - len(own.rest)) if own.rest else ()

    def standing(self):
        houses = range(len(self.houses))
        states = tuple(self.houses[house].state for house in houses)
        fallen = tuple(house for house in houses if not self.houses[house].left)
        return (states, tuple(self.doing(house) for house in houses), tuple(sorted(self.letters)), fallen)


def standings_of(agreement, deeds):
    """The standings ahead of each of the deeds, and the one behind all."""
    run = Run(agreement)
    found = [run.standing()]
    for deed in deeds:
        assert run.can(deed), deed
        run.do(deed)
        found.append(run.standing())
    return found


@functools.lru_cache(maxsize=1000)
def all_standings(agreement, most, limit=4000):
    """All standings that come with so many falls at the most, each with its road; somewhat more than the limit."""
    start = Run(agreement).standing()
    roads, wave = {start: ()}, [start]
    while wave and len(roads) <= limit:
        later = []
        for standing in wave:
            for deed in Run(agreement, standing).deeds():
                run = Run(agreement, standing)
                run.do(deed)
                behind = run.standing()
                if behind not in roads and len(behind[3]) <= most:
                    roads[behind] = roads[standing] + (deed,)
                    later.append(behind)
        wave = later
    return roads


def seen(standing):
    """What those left can know of the standing."""
    states, doing, letters, fallen = standing
    left = tuple(sorted(set(range(len(states))) - set(fallen)))
    return (left, tuple(states[house] for house in left), tuple(doing[house] for house in left),
            tuple(letter for letter in letters if letter[1] not in fallen))


def kinds_in(agreement, standing):
    return [kinds[state] for (kinds, _), state in zip(agreement, standing[0], strict=True)]


def needs_done(agreement, standing):
    return any(kind == "done" for kind in kinds_in(agreement, standing))


def lets_done(agreement, standing):
    return not any(kind in ("open", "off") for kind in kinds_in(agreement, standing))


def lookalikes(agreement, most):
    """The standings of each view, by their numbers."""
    found = {}
    for standing in all_standings(agreement, most):
        found.setdefault(seen(standing), []).append(standing)
    return found


def first_twins(agreement, most):
    """The first standings that are twins, None if there are none: each standing is held against each one."""
    alike = lookalikes(agreement, most)
    for one in all_standings(agreement, most):
        if needs_done(agreement, one):
            for other in alike[seen(one)]:
                if not lets_done(agreement, other):
                    return one, other
    return None


def told_table(agreement, most, bold):
    """The pairs of the table, if there are no twins."""
    rows = []
    for own, standings in lookalikes(agreement, most).items():
        if bold:
            done = all(lets_done(agreement, standing) for standing in standings)
        else:
            done = any(needs_done(agreement, standing) for standing in standings)
        rows.append((own, "done" if done else "off"))
    return tuple(sorted(rows))
