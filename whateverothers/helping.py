"""Fewest backs: how few pieces that stay have to lend their backs to one that is not sure without."""
from itertools import combinations

from whateverothers.grounds import Ground
from whateverothers.sound import is_going
from whateverothers.surety import is_sure


def least_backs(board, own, place):
    """Own orders by which the piece with this place is sure, with as few backs lent to it as can be; None if none."""
    ground = Ground(board)
    if is_sure(ground, own, place):
        return own
    back = _back_for(ground, own, place)
    lenders = _lenders(ground, own, back)
    # A back that is lent never makes a piece less sure, so if any help, all of them do.
    all_lent = _with_lent(own, lenders, back)
    if not is_sure(ground, all_lent, place):
        return None
    for many in range(1, len(lenders)):
        for some in combinations(lenders, many):
            lent = _with_lent(own, some, back)
            if is_sure(ground, lent, place):
                return lent
    return all_lent


def _back_for(ground, own, place):
    """The order that backs the piece with this place as it is ordered."""
    field = ground.fields[place]
    return ("back", field, own[place][1] if is_going(own, place) else field)


def _lenders(ground, own, back):
    """The places of the own pieces that can lend this back, ascending."""
    # The backed piece is near the field aimed at or stands in it, so whoever else is near that one can back it.
    return [other for other in ground.places_near(back[2]) if own[other] == ("stay",)]


def _with_lent(own, lenders, back):
    return tuple([back if place in lenders else order for place, order in enumerate(own)])
