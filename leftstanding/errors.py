"""The errors that calls of this package raise."""

# The messages do not show what was passed: it may be any value, however long or deep, and stands in the field.


class LeftError(ValueError):
    """Any error of a call of this package."""


class Unfit(LeftError):
    """What was asked for does not fit what it was asked of."""


class BadText(LeftError):
    """A value is not the text of what it was read as."""


class BadAgreement(LeftError):
    """A value is no agreement; error is what agreement_error tells of it."""

    def __init__(self, error):
        super().__init__("this is no agreement")
        self.error = error


class Refused(LeftError):
    """A deed cannot be done; deed is this one."""

    def __init__(self, deed):
        super().__init__("this deed cannot be done")
        self.deed = deed


class TooMany(LeftError):
    """There would be more of something than is let; limit is how many are let."""

    def __init__(self, limit):
        super().__init__("there would be too many")
        self.limit = limit


class TooManyEdits(LeftError):
    """As many edits stand as are let."""


class NothingToUndo(LeftError):
    """No edit stands that could be taken back."""


class BadLog(LeftError):
    """A log cannot be done; place is that of the first item that cannot, or -1 if it is no log."""

    def __init__(self, place):
        super().__init__("this log cannot be done")
        self.place = place
