"""Own orders of a player, and whether they are sound: whether own pieces do not stand in each other's way."""
from whateverothers.boards import player_of
from whateverothers.grounds import Ground
from whateverothers.kinds import is_tuple_of
from whateverothers.ordering import is_order


def sound_error(board, player, value):
    """None if value are sound own orders of player, otherwise what is wrong with them first."""
    if not is_tuple_of(value, len(board[1])):
        return "form"
    for place, item in enumerate(value):
        if not _is_item(board, player, place, item):
            return ("order", place)
    ground = Ground(board)
    told = (("foreign", _backing_foreign(ground, value)), ("same", _going_where_one_ahead_goes(value)),
            ("stays", _going_at_staying(ground, value)), ("meet", _going_against_own(ground, value)))
    for word, places in told:
        if len(places) > 0:
            return (word, places[0])
    return None


def is_going(own, place):
    """Whether the piece with this place is an own one that has the order to go."""
    return own[place] is not None and own[place][0] == "go"


def own_met_by(ground, own, place):
    """The place of the own piece in the field to which this one, which goes, goes; None if there is none."""
    met = ground.place_in(own[place][1])
    if met is None or own[met] is None:
        return None
    return met


def _is_item(board, player, place, item):
    if player_of(board, place) != player:
        return item is None
    return is_order(board, place, item)


def _backing_foreign(ground, own):
    return [place for place, order in enumerate(own)
            if order is not None and order[0] == "back" and own[ground.place_in(order[1])] is None]


def _goers(own):
    return [place for place in range(len(own)) if is_going(own, place)]


def _going_where_one_ahead_goes(own):
    return [place for place in _goers(own) if own[place] in own[:place]]


def _going_at_staying(ground, own):
    met = [(place, own_met_by(ground, own, place)) for place in _goers(own)]
    return [place for place, other in met if other is not None and not is_going(own, other)]


def _going_against_own(ground, own):
    met = [(place, own_met_by(ground, own, place)) for place in _goers(own)]
    return [place for place, other in met if other is not None and own[other] == ("go", ground.fields[place])]
