"""A shell as [L] asks for it, which takes lines apart by patterns; what it looks up has tests of its own."""
import re

from tests.plain import error_of_board, is_chart_text, is_order_of
from tests.plainsure import error_of_sound
from whateverothers.breaking import paper
from whateverothers.charttexts import read_chart
from whateverothers.ends import exits, pushed_out
from whateverothers.errors import BadText, NotNow, Unfit
from whateverothers.gamelogs import game_text
from whateverothers.games import Game
from whateverothers.helping import least_backs
from whateverothers.hidden import known
from whateverothers.plans import plan
from whateverothers.reasons import reasons
from whateverothers.settling import loose_rings, settled
from whateverothers.surety import sure

FIELD = "(?:0|[1-9][0-9]{0,8})"
SHAPES = ("(undo|show|text)", "(wanted) ([a-f])", "(orders|outs|builds|settle|why|rings) (.*)",
          "(sure|plan) ([a-f]) (.*)", "(start|known) (.*?) / (.*)", f"(paper|least) ([a-f]) ({FIELD}) / (.*)")
ORDER = re.compile(f"({FIELD}) (?:(stay)|(go) ({FIELD})|(back) ({FIELD}) ({FIELD})|([?]))")


def fields_of(board):
    return [field for field, _ in board[1]]


def text_of(board, items):
    """The text of what is told of pieces: None is "?"."""
    told = []
    for field, item in zip(fields_of(board), items):
        told.append(f"{field} ?" if item is None else " ".join(map(str, (field, *item))))
    return "; ".join(told)


def own_text_of(board, own):
    if own is None:
        return "none"
    told = [(piece, item) for piece, item in zip(board[1], own) if item is not None]
    return text_of((board[0], [piece for piece, _ in told]), [item for _, item in told]) or "none"


def items_told(board, places, text):
    """An order, or None for "?", for each of these places, each with its field ahead."""
    parts = text.split("; ") if text else []
    if len(parts) != len(places):
        raise BadText()
    items = []
    for place, part in zip(places, parts):
        match = ORDER.fullmatch(part)
        if match is None or int(match[1]) != board[1][place][0]:
            raise BadText()
        item = tuple(int(word) if word.isdigit() else word for word in match.groups()[1:] if word is not None)
        if item != ("?",) and not is_order_of(board, place, item):
            raise BadText()
        items.append(None if item == ("?",) else item)
    return tuple(items)


def orders_told(board, text):
    items = items_told(board, range(len(board[1])), text)
    if None in items:
        raise BadText()
    return items


def pieces_told(chart, text):
    if not re.fullmatch("|".join(["", f"{FIELD}:[a-f](?: {FIELD}:[a-f])*"]), text):
        raise BadText()
    pieces = tuple((int(word.split(":")[0]), "abcdef".index(word[-1])) for word in text.split())
    if error_of_board((chart, pieces)) is not None:
        raise BadText()
    return pieces


def chart_told(text):
    if not is_chart_text(text):
        raise BadText()
    return read_chart(text)


class PlainShell:
    def __init__(self):
        self.game = None

    def say(self, line):
        matches = [re.fullmatch(shape, line, re.DOTALL) for shape in SHAPES] if type(line) is str else []
        found = [match for match in matches if match]
        if not found:
            return "what"
        word, *parts = found[0].groups()
        if word != "start" and self.game is None:
            return "no game"
        try:
            return getattr(self, "say_" + word)(*parts)
        except ValueError as error:
            return "error " + error.__class__.__name__

    def own(self, letter, text):
        board, player = self.game.board, "abcdef".index(letter)
        places = [place for place, piece in enumerate(board[1]) if piece[1] == player]
        items = items_told(board, places, text)
        if None in items:
            raise BadText()
        own = tuple(items[places.index(place)] if place in places else None for place in range(len(board[1])))
        if error_of_sound(board, player, own) is not None:
            raise Unfit()
        return own

    def place(self, letter, field):
        piece = (int(field), "abcdef".index(letter))
        if piece not in self.game.board[1]:
            raise Unfit()
        return self.game.board[1].index(piece)

    def phase(self):
        winner = self.game.winner
        return self.game.phase + ("" if winner is None else " " + "abcdef"[winner])

    def deed(self):
        game = self.game
        if game.phase != "outs":
            return self.phase()
        told = "outs"
        for (place, _), fields in zip(pushed_out(game.board, game.orders), exits(game.board, game.orders)):
            told += f" {game.board[1][place][0]}>" + (",".join(map(str, fields)) or "-")
        return told

    def now(self, phase):
        if self.game.phase != phase:
            raise NotNow(self.game.phase)

    def say_start(self, chart, pieces):
        chart = chart_told(chart)
        self.game = Game(chart, pieces_told(chart, pieces))
        return self.deed()

    def say_orders(self, text):
        self.now("orders")
        self.game.go_on(orders_told(self.game.board, text))
        return self.deed()

    def say_outs(self, text):
        self.now("outs")
        if not re.fullmatch(f"({FIELD}|-)( ({FIELD}|-))*", text):
            raise BadText()
        self.game.withdraw(tuple(None if word == "-" else int(word) for word in text.split()))
        return self.deed()

    def say_builds(self, text):
        self.now("builds")
        self.game.build(pieces_told(self.game.board[0], text))
        return self.deed()

    def say_undo(self):
        self.game.undo()
        return self.deed()

    def say_show(self):
        game = self.game
        pieces = " ".join(f"{field}:{'abcdef'[player]}" for field, player in game.board[1]) or "none"
        letters = ["-" if player is None else "abcdef"[player] for player in game.holders]
        centres = " ".join(f"{centre}:{letter}" for centre, letter in zip(game.board[0][2], letters)) or "none"
        return f"year {game.year} round {game.season} {self.phase()}; {pieces}; {centres}"

    def say_wanted(self, letter):
        return str(self.game.wanted("abcdef".index(letter)))

    def say_text(self):
        return game_text(self.game)[:-1] or "none"

    def say_settle(self, text):
        told = settled(self.game.board, orders_told(self.game.board, text))
        return " ".join(f"{field}{'-+'[item]}" for field, item in zip(fields_of(self.game.board), told)) or "none"

    def say_why(self, text):
        return text_of(self.game.board, reasons(self.game.board, orders_told(self.game.board, text))) or "none"

    def say_rings(self, text):
        fields = fields_of(self.game.board)
        rings = loose_rings(self.game.board, orders_told(self.game.board, text))
        return " ".join(">".join(str(fields[place]) for place in ring) for ring in rings) or "none"

    def say_sure(self, letter, text):
        own, told = self.own(letter, text), []
        for place, field in enumerate(fields_of(self.game.board)):
            if own[place] is not None:
                told.append(f"{field}{'-+'[sure(self.game.board, own, place)]}")
        return " ".join(told) or "none"

    def say_paper(self, letter, field, text):
        own = self.own(letter, text)
        word, told = paper(self.game.board, own, self.place(letter, field))
        return word if word == "sure" else f"broken {text_of(self.game.board, told)}"

    def say_least(self, letter, field, text):
        own = self.own(letter, text)
        return own_text_of(self.game.board, least_backs(self.game.board, own, self.place(letter, field)))

    def say_known(self, text, seen):
        board = self.game.board
        told = items_told(board, range(len(board[1])), text)
        if told.count(None) > 2:
            raise BadText()
        return text_of(board, known(board, told, pieces_told(board[0], seen))) or "none"

    def say_plan(self, letter, text):
        board = self.game.board
        words = text.split(", ")
        if not all(re.fullmatch(f"(take|hold|shut) {FIELD}", word) for word in words) or len(set(words)) != len(words):
            raise BadText()
        wishes = tuple((word[:4], int(word[5:])) for word in words)
        if len(wishes) > 4 or any(field >= board[0][0] for _, field in wishes):
            raise BadText()
        return own_text_of(board, plan(board, "abcdef".index(letter), wishes))
