"""The plain rules: what is so of each order, all others being as a settlement has them."""
from whateverothers.clashes import Clash


def fits(board, orders, place):
    """Whether the back of the piece with this place fits what the backed piece is ordered to do."""
    return Clash(board, orders).is_fitting(place)


def settlement_error(board, orders, value):
    """None if value is a settlement that keeps the rules, otherwise what is wrong with it first."""
    if not _is_settlement(orders, value):
        return "form"
    clash = Clash(board, orders)
    for place, order in enumerate(orders):
        if value[place] != _told(clash, value, place, order[0]):
            return ("order", place)
    return None


def first_cutter(clash, place):
    """The least place of a foreign piece that goes to this one, which backs, but from the field aimed at; or None."""
    aim = clash.orders[place][2]
    for goer in clash.foreign_goers_to(place):
        if clash.fields[goer] != aim:
            return goer
    return None


def barrier_to(clash, settlement, place):
    """The place of the piece that stands where this one goes to, and does not leave; None if there is none."""
    met = clash.met_by(place)
    if met is None or (clash.goes_elsewhere(met, place) and settlement[met]):
        return None
    return met


def repelled_by_met(clash, settlement, place):
    """The place of the piece in the field to which the one that this one meets goes and wins; None if none is."""
    met = clash.met_by(place)
    if met is None or not clash.is_going(met) or not settlement[met]:
        return None
    return clash.met_by(met)


def holding_by(clash, stands, place, barrier):
    """What holds the field of the piece that bars the go of this one."""
    if clash.goes_elsewhere(barrier, place):
        return 1
    return clash.force_of(stands, barrier)


def first_rival(clash, stands, place, thrust, repelled):
    """The least place of another piece with the same goal, but for repelled, that this thrust does not beat."""
    for other in clash.goers_to(clash.orders[place][1]):
        if other != place and other != repelled and clash.force_of(stands, other) >= thrust:
            return other
    return None


def go_wins(clash, stands, place, barrier, repelled):
    """R2, barrier being the piece in the way that does not leave, and repelled the one that is no rival."""
    thrust = clash.thrust_of(stands, place, barrier)
    if barrier is not None:
        if not clash.is_foreign(place, barrier) or thrust <= holding_by(clash, stands, place, barrier):
            return False
    return first_rival(clash, stands, place, thrust, repelled) is None


def _is_settlement(orders, value):
    if not isinstance(value, tuple) or len(value) != len(orders):
        return False
    return all([isinstance(item, bool) for item in value])


def _told(clash, settlement, place, word):
    """The bool that the rules tell of this piece, whose order has this word."""
    if word == "back":
        return _back_stands(clash, settlement, place)
    if word == "go":
        barrier = barrier_to(clash, settlement, place)
        return go_wins(clash, settlement, place, barrier, repelled_by_met(clash, settlement, place))
    return True


def _back_stands(clash, settlement, place):
    """R1."""
    if not clash.is_fitting(place) or first_cutter(clash, place) is not None:
        return False
    return clash.winner_into(settlement, clash.fields[place]) is None
