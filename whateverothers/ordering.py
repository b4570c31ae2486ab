"""Orders: what each piece of a board may be told to do."""
from whateverothers.boards import field_of
from whateverothers.charts import near
from whateverothers.kinds import is_integer, is_tuple_of


def orders_error(board, value):
    """None if value is orders of board, otherwise what is wrong with it first."""
    if not is_tuple_of(value, len(board[1])):
        return "form"
    for place, item in enumerate(value):
        if not is_order(board, place, item):
            return ("order", place)
    return None


def is_order(board, place, value):
    """Whether value is an order of the piece with this place."""
    if not isinstance(value, tuple):
        return False
    # Python takes True for equal to 1, so a bool has to be told apart ahead of looking it up.
    if not all([isinstance(part, str) or is_integer(part) for part in value]):
        return False
    return value in orders_of(board, place)


def orders_of(board, place):
    """The tuple of all orders of the piece with this place: to stay, to go, to back."""
    field = field_of(board, place)
    goals = near(board[0], field)
    gos = [("go", goal) for goal in goals]
    backs = [("back", other, goal) for other, _ in board[1] if other != field
             for goal in _shared_goals(board[0], goals, other)]
    return (("stay",), *gos, *backs)


def _shared_goals(chart, goals, other):
    """Those of the goals at which the piece in other can be backed: its own field and those near it."""
    others = near(chart, other)
    return [goal for goal in goals if goal == other or goal in others]
