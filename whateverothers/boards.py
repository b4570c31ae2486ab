"""Boards: charts with pieces of players in their fields."""
from whateverothers.bounds import MAX_PIECES, MAX_PLAYERS
from whateverothers.charts import chart_error
from whateverothers.kinds import is_below, is_tuple_of


def board_error(value):
    """None if value is a board, otherwise what is wrong with it first."""
    if not is_tuple_of(value, 2):
        return "form"
    chart, pieces = value
    error = chart_error(chart)
    if error is not None:
        return ("chart", error)
    if not isinstance(pieces, tuple) or len(pieces) > MAX_PIECES:
        return "pieces"
    for place, piece in enumerate(pieces):
        # The piece ahead was right, so the fields of both can be compared.
        if not _is_piece(chart, piece) or (place > 0 and piece[0] <= pieces[place - 1][0]):
            return ("piece", place)
    return None


def place_in(board, field):
    """The place of the piece in field, None if field is free."""
    for place, piece in enumerate(board[1]):
        if piece[0] == field:
            return place
    return None


def field_of(board, place):
    """The field of the piece with this place."""
    return board[1][place][0]


def player_of(board, place):
    """The player of the piece with this place."""
    return board[1][place][1]


def _is_piece(chart, value):
    return is_tuple_of(value, 2) and is_below(value[0], chart[0]) and is_below(value[1], MAX_PLAYERS)
