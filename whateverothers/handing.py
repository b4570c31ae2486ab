"""What players hand in for their own pieces, and the deeds that are made of all that is handed in."""
from whateverothers.boards import field_of, place_in, player_of
from whateverothers.bounds import MAX_PIECES, MAX_PLAYERS
from whateverothers.ends import exits, is_out, pushed_out
from whateverothers.kinds import is_integer, is_tuple_of
from whateverothers.ordering import is_order
from whateverothers.years import are_news_of, own_fields_of, pieces_with, wanted_by


def is_thing(game, player, value):
    """Whether value tells what the player may hand in now, in a game that is not ended."""
    if not _are_pairs_by_fields(value):
        return False
    if game.phase == "orders":
        return all([_is_own_order(game.board, player, field, item) for field, item in value])
    if game.phase == "outs":
        exits_from = _exits_of_own(game, player)
        return all([field in exits_from and is_out(exits_from[field], item) for field, item in value])
    return (all([is_integer(item) and item == player for _, item in value])
            and are_news_of(game.board, game.holders, player, value))


def orders_handed_in(game, things):
    """Orders by all things; who is told nothing stays."""
    told = _all_told(things)
    return tuple([told.get(field, ("stay",)) for field, _ in game.board[1]])


def outs_handed_in(game, things):
    """Outs by all things; who is told nothing is gone."""
    told = _all_told(things)
    return tuple([told.get(field_of(game.board, place)) for place, _ in pushed_out(game.board, game.orders)])


def news_handed_in(game, things):
    """News by the things of these players; of others nothing is set, and what is too many is taken off."""
    told = [pair for player in range(MAX_PLAYERS) for pair in things.get(player, _taken_off(game, player))]
    news = tuple(sorted(told))
    if len(pieces_with(game.board, news)) > MAX_PIECES:
        return tuple([pair for pair in news if pair in game.board[1]])
    return news


def _are_pairs_by_fields(value):
    """Whether value is a tuple of pairs with integers as first items, each greater than the one ahead."""
    if not isinstance(value, tuple) or not all([is_tuple_of(pair, 2) and is_integer(pair[0]) for pair in value]):
        return False
    fields = [field for field, _ in value]
    return all([low < high for low, high in zip(fields, fields[1:])])


def _is_own_order(board, player, field, value):
    place = place_in(board, field)
    return place is not None and player_of(board, place) == player and is_order(board, place, value)


def _exits_of_own(game, player):
    """The exits of the player's pieces that were pushed out, by their fields."""
    pushed = [place for place, _ in pushed_out(game.board, game.orders)]
    return {field_of(game.board, place): fields for place, fields in zip(pushed, exits(game.board, game.orders))
            if player_of(game.board, place) == player}


def _all_told(things):
    """What is told of each field."""
    return {field: item for thing in things.values() for field, item in thing}


def _taken_off(game, player):
    """The pieces that are taken off from a player who tells nothing: those in the greatest fields."""
    fields = own_fields_of(game.board, player)
    wants = wanted_by(game.board, game.holders, player)
    return [(field, player) for field in fields[len(fields) + min(wants, 0):]]
