"""What a shell answers when it is asked to look at its game, and how it tells phases."""
from whateverothers.boards import field_of, place_in, player_of
from whateverothers.boardtexts import PLAYER_LETTERS, order_text, orders_text, pieces_text, read_orders, read_pieces
from whateverothers.breaking import paper
from whateverothers.ends import exits, pushed_out
from whateverothers.errors import Unfit
from whateverothers.gamelogs import game_lines
from whateverothers.helping import least_backs
from whateverothers.hidden import known
from whateverothers.owntexts import hidden_text, own_text, read_hidden, read_own, read_wishes
from whateverothers.plans import plan
from whateverothers.reasons import reasons
from whateverothers.settling import loose_rings, settled
from whateverothers.sound import sound_error
from whateverothers.surety import sure


def phase_row(game):
    """The phase, with the fields of all pieces that were pushed out and their exits, or with who has won."""
    if game.phase != "outs":
        return _phase_text(game)
    pushed = [field_of(game.board, place) for place, _ in pushed_out(game.board, game.orders)]
    rows = [f"{field}>{_exits_text(fields)}" for field, fields in zip(pushed, exits(game.board, game.orders))]
    return " ".join(["outs", *rows])


def look_told(game, told):
    """The answer to a line, told as a word and its parts, that looks at game; raises what the look raises."""
    word, *parts = told
    look = LOOKS[word]
    return look(game, *parts)


def _exits_text(fields):
    return _text_or(",".join([str(field) for field in fields]), "-")


def _text_or(text, empty):
    """The text, or what stands for an empty one."""
    return empty if text == "" else text


def _row(things, mark):
    return _text_or(mark.join(things), "none")


def _phase_text(game):
    if game.winner is None:
        return game.phase
    return f"{game.phase} {PLAYER_LETTERS[game.winner]}"


def _show(game):
    letters = ["-" if player is None else PLAYER_LETTERS[player] for player in game.holders]
    centres = _row([f"{centre}:{letter}" for centre, letter in zip(game.board[0][2], letters)], " ")
    pieces = _text_or(pieces_text(game.board[1]), "none")
    return f"year {game.year} round {game.season} {_phase_text(game)}; {pieces}; {centres}"


def _wanted(game, player):
    return str(game.wanted(player))


def _text(game):
    return _row(game_lines(game), "\n")


def _settle(game, text):
    places = list(range(len(game.board[1])))
    return _marks(game.board, places, settled(game.board, read_orders(game.board, text)))


def _marks(board, places, bools):
    """The fields of the pieces with these places, each with a sign for its bool."""
    signs = ["+" if item else "-" for item in bools]
    return _row([f"{field_of(board, place)}{sign}" for place, sign in zip(places, signs)], " ")


def _why(game, text):
    told = reasons(game.board, read_orders(game.board, text))
    return _row([order_text(field_of(game.board, place), reason) for place, reason in enumerate(told)], "; ")


def _rings(game, text):
    rings = loose_rings(game.board, read_orders(game.board, text))
    return _row([">".join([str(field_of(game.board, place)) for place in ring]) for ring in rings], " ")


def _read_sound(board, player, text):
    """The own orders of player that text tells; raises BadText if it tells none, Unfit if they are not sound."""
    own = read_own(board, player, text)
    if sound_error(board, player, own) is not None:
        raise Unfit()
    return own


def _own_place(board, player, field):
    """The place of the piece of player in field; raises Unfit if there is none."""
    place = place_in(board, field)
    if place is None or player_of(board, place) != player:
        raise Unfit()
    return place


def _sure(game, player, text):
    own = _read_sound(game.board, player, text)
    places = [place for place, order in enumerate(own) if order is not None]
    return _marks(game.board, places, [sure(game.board, own, place) for place in places])


def _paper(game, player, field, text):
    own = _read_sound(game.board, player, text)
    word, told = paper(game.board, own, _own_place(game.board, player, field))
    if word == "sure":
        return word
    return f"{word} {orders_text(game.board, told)}"


def _least(game, player, field, text):
    own = _read_sound(game.board, player, text)
    return _own_or_none(game.board, least_backs(game.board, own, _own_place(game.board, player, field)))


def _own_or_none(board, own):
    return "none" if own is None else _text_or(own_text(board, own), "none")


def _known(game, text, seen_text):
    told = read_hidden(game.board, text)
    seen = read_pieces(game.board[0], seen_text)
    return _text_or(hidden_text(game.board, known(game.board, told, seen)), "none")


def _plan(game, player, text):
    wishes = read_wishes(game.board[0], text)
    return _own_or_none(game.board, plan(game.board, player, wishes))


LOOKS = {"show": _show, "wanted": _wanted, "text": _text, "settle": _settle, "why": _why, "rings": _rings,
         "sure": _sure, "paper": _paper, "least": _least, "known": _known, "plan": _plan}
