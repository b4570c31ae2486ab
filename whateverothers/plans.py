"""Plans: own orders by which all that a player wishes is sure."""
from whateverothers.grounds import Ground
from whateverothers.ordering import orders_of
from whateverothers.sound import is_going
from whateverothers.surety import is_shut, is_sure
from whateverothers.trying import check_tried, own_tuples


def sure_of(board, own, wishes):
    """For each wish whether it is sure by own."""
    ground = Ground(board)
    return tuple([_is_sure_wish(ground, own, wish) for wish in wishes])


def plan(board, player, wishes):
    """The first sound own orders of player by which all wishes are sure, None if there are none; raises TooMany."""
    choices = [orders_of(board, place) if owner == player else (None,) for place, (_, owner) in enumerate(board[1])]
    check_tried(choices)
    ground = Ground(board)
    # A back that does not fit does no more than staying, which is an earlier order: the first own orders have none.
    for own in own_tuples(ground, choices):
        if _are_all_sure(ground, own, wishes):
            return own
    return None


def _are_all_sure(ground, own, wishes):
    for wish in wishes:
        if not _is_sure_wish(ground, own, wish):
            return False
    return True


def _is_sure_wish(ground, own, wish):
    word, field = wish
    standing = ground.place_in(field)
    if word == "shut":
        return standing is None and is_shut(ground, own, field)
    is_own = standing is not None and own[standing] is not None
    if word == "hold":
        return is_own and not is_going(own, standing) and is_sure(ground, own, standing)
    return not is_own and ("go", field) in own and is_sure(ground, own, own.index(("go", field)))
