"""Logs of games and their texts, and the games that they lead to."""
from whateverothers.boardtexts import orders_text, pieces_text, read_orders, read_pieces
from whateverothers.errors import BadLog, BadText, NotNow, OrderError, Unfit
from whateverothers.games import Game
from whateverothers.kinds import integer_told, is_tuple_of

GONE = "-"


def game_behind(chart, pieces, value):
    """The game of chart and pieces with the log value; raises BadLog with the place of the first wrong item."""
    game = Game(chart, pieces)
    if not isinstance(value, tuple):
        raise BadLog(0)
    for place, deed in enumerate(value):
        if not is_tuple_of(deed, 2):
            raise BadLog(place)
        try:
            _do(game, deed[0], deed[1])
        except OrderError:
            raise BadLog(place) from None
    return game


def game_text(game):
    """The text of game: a line for each of its deeds."""
    return "".join([line + "\n" for line in game_lines(game)])


def game_lines(game):
    """The lines of the text of game, without their line feeds."""
    return [_deed_text(board, deed) for board, deed in zip(game.boards_ahead(), game.log)]


def read_game(chart, pieces, value):
    """The game of chart and pieces of whose log value is the text; raises BadText if there is none such."""
    game = Game(chart, pieces)
    if not isinstance(value, str):
        raise BadText()
    for line in value.split("\n")[:-1]:
        phase, _, told = line.partition(" ")
        try:
            do_told(game, phase, told)
        except OrderError:
            raise BadText() from None
    # Some of what is wrong was passed over above: what stands behind the last line feed, and blanks that are left out.
    # Only a text is what its game is written as.
    if game_text(game) != value:
        raise BadText()
    return game


def do_told(game, phase, text):
    """Does the deed of this phase, the first word of its line, that text, the rest of it, tells.

    Raises NotNow if there is another phase, BadText if text tells nothing, and what the deed raises.
    """
    if phase != game.phase:
        raise NotNow(game.phase)
    if phase == "orders":
        game.go_on(read_orders(game.board, text))
    elif phase == "outs":
        game.withdraw(_read_outs(text))
    else:
        # News that are not refused are told as pieces are: their fields are unlike and ascend.
        game.build(read_pieces(game.board[0], text))


def _do(game, word, argument):
    """Does one deed, told as in a log; raises some OrderError if there is none such or it is refused."""
    if word == "go_on":
        game.go_on(argument)
    elif word == "withdraw":
        game.withdraw(argument)
    elif word == "build":
        game.build(argument)
    else:
        raise Unfit()


def _deed_text(board, deed):
    """The line of a deed that was done on board, without its line feed."""
    word, argument = deed
    if word == "go_on":
        return f"orders {orders_text(board, argument)}"
    if word == "withdraw":
        return f"outs {_outs_text(argument)}"
    return f"builds {pieces_text(argument)}"


def _outs_text(outs):
    return " ".join([GONE if out is None else str(out) for out in outs])


def _read_outs(text):
    """The outs that text tells; raises BadText if it tells none."""
    words = text.split(" ")
    outs = tuple([integer_told(word) for word in words])
    # What is no integer is None, as those are that are gone.
    if not all([out is not None or word == GONE for word, out in zip(words, outs)]):
        raise BadText()
    return outs
