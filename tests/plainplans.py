"""What [J] and [K] ask for, written anew as plainly as can be: by going through all tuples."""
import itertools

from tests.plain import all_orders
from tests.plainsure import error_of_sound, is_shut, is_sure, told_by_all
from whateverothers.ends import behind, pushed_out


def seen_behind(board, orders):
    return behind(board, orders, (None,) * len(pushed_out(board, orders)))


def fitting(board, told):
    """All orders that fit told, in the order of [J2]."""
    choices = [all_orders(board, place) if item is None else (item,) for place, item in enumerate(told)]
    return itertools.product(*choices)


def all_ways(board, told, seen):
    return tuple(orders for orders in fitting(board, told) if seen_behind(board, orders) == seen)


def many_fitting(board, told):
    many = 1
    for place, item in enumerate(told):
        many *= len(all_orders(board, place)) if item is None else 1
    return many


def known_by(found):
    """What is known by these ways, at least one."""
    return tuple(items[0] if len(set(items)) == 1 else None for items in zip(*found))


def is_sure_wish(board, own, wish):
    """[K1], word by word."""
    word, field = wish
    own_orders = {board[1][place][0]: item for place, item in enumerate(own) if item is not None}
    if word == "take":
        goers = [start for start, order in own_orders.items() if order == ("go", field)]
        return field not in own_orders and any(is_sure(board, own, start) for start in goers)
    if word == "hold":
        return field in own_orders and own_orders[field][0] != "go" and is_sure(board, own, field)
    return field not in dict(board[1]) and is_shut(board, own, field)


def is_sure_by_all(board, own, wish, told=None):
    """The same by all orders of the others."""
    kept, shut = told or told_by_all(board, own)
    word, field = wish
    fields = [taken for taken, _ in board[1]]
    if word == "shut":
        return shut.get(field, False)
    if word == "hold":
        place = fields.index(field) if field in fields else None
        return place in kept and own[place][0] != "go" and kept[place]
    taken = field in fields and own[fields.index(field)] is not None
    return not taken and any(kept[place] and own[place] == ("go", field) for place in kept)


def first_plan(board, player, wishes):
    """The first sound own by which all wishes are sure, and how many tuples come ahead of it; None if there is none."""
    choices = [all_orders(board, place) if owner == player else (None,) for place, (_, owner) in enumerate(board[1])]
    for at, own in enumerate(itertools.product(*choices)):
        if error_of_sound(board, player, own) is None and all(is_sure_wish(board, own, wish) for wish in wishes):
            return own, at
    return None, None


def all_wishes(board):
    return [(word, field) for word in ("take", "hold", "shut") for field in range(board[0][0])]
