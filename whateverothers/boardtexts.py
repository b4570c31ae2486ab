"""The texts of pieces and of orders."""
from whateverothers.boards import board_error
from whateverothers.errors import BadText
from whateverothers.ordering import orders_error
from whateverothers.kinds import integer_told

PLAYER_LETTERS = "abcdef"


def pieces_text(pieces):
    """The text of pieces."""
    return " ".join([f"{field}:{PLAYER_LETTERS[player]}" for field, player in pieces])


def read_pieces(chart, value):
    """The pieces of which value is the text, in fields of chart; raises BadText if there are none such."""
    if not isinstance(value, str):
        raise BadText()
    pieces = tuple([_piece_told(word) for word in parts_of(value, " ")])
    if board_error((chart, pieces)) is not None:
        raise BadText()
    return pieces


def orders_text(board, orders):
    """The text of orders of board."""
    parts = [order_text(board[1][place][0], order) for place, order in enumerate(orders)]
    return "; ".join(parts)


def read_orders(board, value):
    """The orders of board of which value is the text; raises BadText if there are none such."""
    if not isinstance(value, str):
        raise BadText()
    orders = tuple([order_told(part) for part in parts_of(value, "; ")])
    # The fields ahead of the words are passed over above; they are right if the text comes out again.
    if orders_error(board, orders) is not None or orders_text(board, orders) != value:
        raise BadText()
    return orders


def parts_of(text, mark):
    """The parts of text between the marks; none of a text without a sign."""
    if text == "":
        return []
    return text.split(mark)


def player_told(letter):
    """The player whose letter this is, None if it is nobody's."""
    if len(letter) != 1 or letter not in PLAYER_LETTERS:
        return None
    return PLAYER_LETTERS.index(letter)


def order_text(field, order):
    """The text of the order of the piece in field."""
    return " ".join([str(part) for part in (field, *order)])


def order_told(part):
    """The order that part tells behind its field, with None for what is no integer."""
    words = part.split(" ")
    numbers = [integer_told(word) for word in words[2:]]
    return (*words[1:2], *numbers)


def _piece_told(word):
    """The piece that word tells, with None for what is no integer and for what is no player."""
    field, _, letter = word.partition(":")
    return (integer_told(field), player_told(letter))
