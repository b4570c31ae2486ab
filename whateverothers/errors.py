"""The errors that the package raises. Each keeps what it was made with."""


class OrderError(ValueError):
    """The base of all errors of this package."""


class Unfit(OrderError):
    """What was handed in does not fit."""


class BadText(OrderError):
    """A value is the text of nothing of its kind."""


class BadBoard(OrderError):
    """A chart and pieces are no board; error is what board_error tells."""

    def __init__(self, error):
        self.error = error


class BadOrders(OrderError):
    """A value is no orders of the board; error is what orders_error tells."""

    def __init__(self, error):
        self.error = error


class TooMany(OrderError):
    """More would have to be tried than limit."""

    def __init__(self, limit):
        self.limit = limit


class NotNow(OrderError):
    """The game is in this phase, in which the deed cannot be done."""

    def __init__(self, phase):
        self.phase = phase


class NothingToUndo(OrderError):
    """No deed stands that could be taken back."""


class TooManyEdits(OrderError):
    """As many deeds stand as there may be."""


class BadLog(OrderError):
    """A value is no log; place is that of its first item that is wrong."""

    def __init__(self, place):
        self.place = place
