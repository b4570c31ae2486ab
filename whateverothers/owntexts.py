"""The texts of own orders, of orders that are not all known, and of wishes."""
from whateverothers.boardtexts import order_text, order_told, parts_of
from whateverothers.bounds import MAX_HIDDEN
from whateverothers.errors import BadText
from whateverothers.kinds import integer_told, is_below
from whateverothers.ordering import is_order

MAX_WISHES = 4
WISH_WORDS = ("take", "hold", "shut")
UNKNOWN = "?"


def own_text(board, own):
    """The text of own orders: only own pieces are told of."""
    return "; ".join([order_text(board[1][place][0], order) for place, order in enumerate(own) if order is not None])


def read_own(board, player, text):
    """The own orders of player of which text is the text; raises BadText if there are none such."""
    told = [order_told(part) for part in parts_of(text, "; ")]
    places = [place for place, (_, owner) in enumerate(board[1]) if owner == player]
    if len(told) != len(places):
        raise BadText()
    order_at = {place: order for place, order in zip(places, told)}
    own = tuple([order_at.get(place) for place in range(len(board[1]))])
    # The fields ahead of the words are passed over above; they are right if the text comes out again.
    if not _are_orders(board, own) or own_text(board, own) != text:
        raise BadText()
    return own


def hidden_text(board, told):
    """The text of orders that are not all known."""
    return "; ".join([order_text(board[1][place][0], (UNKNOWN,) if order is None else order)
                      for place, order in enumerate(told)])


def read_hidden(board, text):
    """The orders, None for each unknown one, of which text is the text; raises BadText if there are none such."""
    told = tuple([_order_or_none(part) for part in parts_of(text, "; ")])
    if len(told) != len(board[1]) or told.count(None) > MAX_HIDDEN or not _are_orders(board, told):
        raise BadText()
    if hidden_text(board, told) != text:
        raise BadText()
    return told


def read_wishes(chart, text):
    """The wishes of which text is the text; raises BadText if there are none such."""
    wishes = tuple([_wish_told(part) for part in text.split(", ")])
    if len(wishes) > MAX_WISHES or not all([_is_wish(chart, wish) for wish in wishes]):
        raise BadText()
    if any([wishes.count(wish) > 1 for wish in wishes]):
        raise BadText()
    return wishes


def _are_orders(board, told):
    """Whether all that is not None are orders of the pieces with these places."""
    return all([order is None or is_order(board, place, order) for place, order in enumerate(told)])


def _order_or_none(part):
    """The order that part tells behind its field, None for an unknown one."""
    order = order_told(part)
    return None if order == (UNKNOWN,) else order


def _wish_told(part):
    word, _, field = part.partition(" ")
    return (word, integer_told(field))


def _is_wish(chart, wish):
    return wish[0] in WISH_WORDS and is_below(wish[1], chart[0])
