"""The plain rules: what is so of each order, all others being as a settlement has them."""
from whateverothers.boards import field_of, place_in, player_of


def fits(board, orders, place):
    """Whether the back of the piece with this place fits what the backed piece is ordered to do."""
    _, backed_field, aim = orders[place]
    backed = orders[place_in(board, backed_field)]
    if aim == backed_field:
        return backed[0] != "go"
    return backed == ("go", aim)


def settlement_error(board, orders, value):
    """None if value is a settlement that keeps the rules, otherwise what is wrong with it first."""
    if not _is_settlement(orders, value):
        return "form"
    for place, order in enumerate(orders):
        if value[place] != _told(board, orders, value, place, order[0]):
            return ("order", place)
    return None


def goers_to(orders, field):
    """The places of all pieces that have the order to go to field."""
    return [place for place, order in enumerate(orders) if order == ("go", field)]


def backers_of(board, orders, settlement, place):
    """The places of all pieces whose backs for this piece fit and stand."""
    field = field_of(board, place)
    for_it = [other for other, order in enumerate(orders) if order[0] == "back" and order[1] == field]
    return [other for other in for_it if settlement[other] and fits(board, orders, other)]


def force_by(board, orders, settlement, place):
    """The force of this piece."""
    return 1 + len(backers_of(board, orders, settlement, place))


def barrier_to(board, orders, settlement, place):
    """The place of the piece that stands where this one goes to, and does not leave; None if there is none."""
    met = place_in(board, orders[place][1])
    if met is None or _leaves(board, orders, settlement, place, met):
        return None
    return met


def thrust_by(board, orders, settlement, place):
    """The thrust of this piece, which goes."""
    backers = backers_of(board, orders, settlement, place)
    barrier = barrier_to(board, orders, settlement, place)
    if barrier is not None:
        # Nobody helps to push out a piece of their own player.
        backers = [other for other in backers if player_of(board, other) != player_of(board, barrier)]
    return 1 + len(backers)


def holding_by(board, orders, settlement, place, barrier):
    """What holds the field of the piece that bars the go of this one."""
    order = orders[barrier]
    if order[0] == "go" and order[1] != field_of(board, place):
        return 1
    return force_by(board, orders, settlement, barrier)


def rivals_of(board, orders, settlement, place):
    """The places of all other pieces that go where this one goes, but for the one that is repelled."""
    goal = orders[place][1]
    repelled = _repelled_from(board, orders, settlement, goal)
    return [other for other in goers_to(orders, goal) if other != place and field_of(board, other) != repelled]


def _is_settlement(orders, value):
    if not isinstance(value, tuple) or len(value) != len(orders):
        return False
    return all([isinstance(item, bool) for item in value])


def _told(board, orders, settlement, place, word):
    """The bool that the rules tell of this piece, whose order has this word."""
    if word == "back":
        return _back_stands(board, orders, settlement, place)
    if word == "go":
        return _go_wins(board, orders, settlement, place)
    return True


def _back_stands(board, orders, settlement, place):
    """R1."""
    if not fits(board, orders, place):
        return False
    aim = orders[place][2]
    for goer in goers_to(orders, field_of(board, place)):
        foreign = player_of(board, goer) != player_of(board, place)
        if settlement[goer] or (foreign and field_of(board, goer) != aim):
            return False
    return True


def _go_wins(board, orders, settlement, place):
    """R2."""
    thrust = thrust_by(board, orders, settlement, place)
    barrier = barrier_to(board, orders, settlement, place)
    if barrier is not None:
        if player_of(board, barrier) == player_of(board, place):
            return False
        if thrust <= holding_by(board, orders, settlement, place, barrier):
            return False
    rivals = rivals_of(board, orders, settlement, place)
    return all([thrust > force_by(board, orders, settlement, other) for other in rivals])


def _leaves(board, orders, settlement, place, met):
    """Whether the piece that this one meets goes elsewhere than to this one's field, and wins."""
    order = orders[met]
    return order[0] == "go" and order[1] != field_of(board, place) and settlement[met]


def _repelled_from(board, orders, settlement, goal):
    """The field to which the piece in goal goes and wins, None if it does not."""
    met = place_in(board, goal)
    if met is not None and orders[met][0] == "go" and settlement[met]:
        return orders[met][1]
    return None
