"""Agreements that are well known, for as many houses as wanted."""

KINDS = ("open", "yes", "done", "off")
THREE_KINDS = ("open", "yes", "yes", "done", "off")


def central(n):
    """Return the agreement in which the house 0 asks all others, and tells them."""
    others = list(range(1, n))
    zero = [_row(0, (), 1, _letters(others, "ask")), _row(0, (), 3, _letters(others, "off"))]
    zero.append(_row(1, _letters(others, "yes"), 2, _letters(others, "done")))
    zero = zero + [_row(1, _letters((other,), "no"), 3, _letters(others, "off")) for other in others]
    rows = _answers(3) + (_row(1, _letters((0,), "done"), 2, ()), _row(1, _letters((0,), "off"), 3, ()))
    return ((KINDS, tuple(zero)),) + ((KINDS, rows),) * (n - 1)


def central_three(n):
    """Return the agreement in which the house 0 asks all others, and tells them when all have heard of it."""
    others = list(range(1, n))
    zero = [_row(0, (), 1, _letters(others, "ask")), _row(0, (), 4, _letters(others, "off"))]
    zero.append(_row(1, _letters(others, "yes"), 2, _letters(others, "ready")))
    zero = zero + [_row(1, _letters((other,), "no"), 4, _letters(others, "off")) for other in others]
    zero.append(_row(2, _letters(others, "got"), 3, _letters(others, "done")))
    rows = _answers(4) + (
        _row(1, _letters((0,), "ready"), 2, _letters((0,), "got")),
        _row(1, _letters((0,), "off"), 4, ()),
        _row(2, _letters((0,), "done"), 3, ()),
    )
    return ((THREE_KINDS, tuple(zero)),) + ((THREE_KINDS, rows),) * (n - 1)


def everyone(n):
    """Return the agreement in which each house tells all others."""
    return tuple([(KINDS, _rows_of_everyone(house, n)) for house in range(n)])


def chain(n):
    """Return the agreement that goes along a line of houses and back."""
    return tuple([(KINDS, _rows_of_chain(house, n)) for house in range(n)])


def _row(state, takes, onto, sends):
    """Return a row that is not late."""
    return (state, takes, onto, sends, False)


def _letters(houses, word):
    """Return what is taken of these houses, or sent to them, if it is this word."""
    return tuple([(house, word) for house in houses])


def _answers(off):
    """Return the rows by which a house answers the house 0 that asks it, off being its state of that kind."""
    asks = _letters((0,), "ask")
    return (
        _row(0, asks, 1, _letters((0,), "yes")),
        _row(0, asks, off, _letters((0,), "no")),
        _row(0, _letters((0,), "off"), off, ()),
    )


def _rows_of_everyone(house, n):
    """Return the rows of this house, one of n, each of which tells all others."""
    others = [other for other in range(n) if other != house]
    rows = [_row(0, (), 1, _letters(others, "yes")), _row(0, (), 3, _letters(others, "no"))]
    rows.append(_row(1, _letters(others, "yes"), 2, ()))
    return tuple(rows + [_row(1, _letters((other,), "no"), 3, ()) for other in others])


def _rows_of_chain(house, n):
    """Return the rows of this house, one of n in a line."""
    # At the ends of the line there is no house: what would be taken of it or sent to it is left out.
    lower = [house - 1] if house > 0 else []
    upper = [house + 1] if house < n - 1 else []
    rows = [_row(0, _letters(lower, "yes"), 1, _letters(upper, "yes"))]
    rows.append(_row(0, _letters(lower, "yes"), 3, _letters(lower + upper, "off")))
    if lower:
        rows.append(_row(0, _letters(lower, "off"), 3, _letters(upper, "off")))
    if upper:
        rows.append(_row(1, _letters(upper, "done"), 2, _letters(lower, "done")))
        rows.append(_row(1, _letters(upper, "off"), 3, _letters(lower, "off")))
    else:
        rows.append(_row(1, (), 2, _letters(lower, "done")))
    return tuple(rows)
