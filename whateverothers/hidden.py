"""Orders that were not seen: which ones can have led to what is seen behind them."""
from whateverothers.clashes import is_fit
from whateverothers.ends import left_behind
from whateverothers.errors import Unfit
from whateverothers.grounds import Ground
from whateverothers.ordering import orders_of
from whateverothers.trying import all_tuples, check_tried


def ways(board, told, seen):
    """The tuple of all orders that fit told and behind which seen is seen; raises TooMany if too many fit told."""
    choices = [orders_of(board, place) if order is None else (order,) for place, order in enumerate(told)]
    check_tried(choices)
    ground = Ground(board)
    hidden = [place for place, order in enumerate(told) if order is None]
    are_seen = {}
    found = []
    for orders in all_tuples(choices):
        key = _moves(ground, orders, hidden)
        if key not in are_seen:
            are_seen[key] = left_behind(board, orders) == seen
        if are_seen[key]:
            found.append(orders)
    return tuple(found)


def known(board, told, seen):
    """For each piece the one order that it has in all ways, or None; raises TooMany, and Unfit if there are none."""
    found = ways(board, told, seen)
    if len(found) == 0:
        raise Unfit()
    return tuple([order if all([orders[place] == order for orders in found]) else None
                  for place, order in enumerate(found[0])])


def _moves(ground, orders, hidden):
    """The orders of the hidden pieces, with those to stay for backs that do not fit: these move nothing, either."""
    return tuple([orders[place] if _does_anything(ground, orders, place) else ("stay",) for place in hidden])


def _does_anything(ground, orders, place):
    order = orders[place]
    return order[0] != "back" or is_fit(order, orders[ground.place_in(order[1])])
