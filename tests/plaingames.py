"""What [F] asks for, written anew as plainly as can be: how a game stands is told by doing its whole log anew."""
import functools
import itertools
import random

from tests.plain import THREE, WHEEL, all_orders, error_of_orders
from tests.plainrounds import Round
from tests.support import shown
from whateverothers.games import Game
from whateverothers.settling import settled

PUSH = (("go", 1), ("stay",), ("back", 0, 1))
LINE = (3, ((0, 1), (1, 2)), (0, 2))
GRID = (9, ((0, 1), (0, 3), (1, 2), (1, 4), (2, 5), (3, 4), (3, 6), (4, 5), (4, 7), (5, 8), (6, 7), (7, 8)),
        (0, 2, 4, 6, 8))
ROUND = (8, ((0, 1), (0, 4), (0, 7), (1, 2), (1, 5), (2, 3), (2, 6), (3, 4), (3, 7), (4, 5), (5, 6), (6, 7)),
         tuple(range(8)))
GAMES = ((GRID, ((0, 0), (1, 0), (2, 1), (3, 1), (6, 2), (8, 2))),
         (ROUND, ((0, 0), (1, 1), (2, 2), (4, 3), (5, 4), (6, 5))),
         (ROUND, ((0, 0), (1, 0), (2, 0), (4, 1), (5, 1), (6, 1))),
         (WHEEL, THREE[1]))
DEEDS = ("go_on", "withdraw", "build")
PLAYERS = range(6)
ATTRIBUTES = ("board", "phase", "year", "season", "holders", "winner", "orders", "log")


@functools.lru_cache(maxsize=None)
def round_of(board, orders):
    if len(orders) > 7:
        # Too many tuples of bools to be tried; these are told by tests of their own.
        return Round(board, orders, (settled(board, orders),))
    return Round(board, orders)


def taken(board, holders):
    """Who holds the centres once all on which pieces stand are taken."""
    return tuple(dict(board[1]).get(centre, holder) for centre, holder in zip(board[0][2], holders))


def new_stand(chart, pieces):
    board = (chart, pieces)
    return {"board": board, "phase": "orders", "year": 0, "season": 0, "holders": taken(board, [None] * len(chart[2])),
            "winner": None, "orders": None, "log": ()}


def stand_behind(chart, pieces, log):
    stand = new_stand(chart, pieces)
    for deed in log:
        stand = stand_with(stand, deed)
    return stand


def wants(stand, player):
    pieces = [owner for _, owner in stand["board"][1] if owner == player]
    return len([holder for holder in stand["holders"] if holder == player]) - len(pieces)


def stand_with(stand, deed):
    """The stand behind a deed that is not refused."""
    word, argument = deed
    stand = dict(stand, log=stand["log"] + (deed,))
    chart = stand["board"][0]
    if word == "build":
        left = set(stand["board"][1]) ^ set(argument)
        return dict(stand, board=(chart, tuple(sorted(left))), phase="orders", year=stand["year"] + 1, season=0)
    if word == "go_on":
        told = round_of(stand["board"], argument)
        if told.pushed_out():
            return dict(stand, phase="outs", orders=argument)
        pieces = told.behind(())
    else:
        pieces = round_of(stand["board"], stand["orders"]).behind(argument)
    stand = dict(stand, board=(chart, pieces), orders=None)
    if stand["season"] == 0:
        return dict(stand, phase="orders", season=1)
    return year_over(stand)


def year_over(stand):
    holders = taken(stand["board"], stand["holders"])
    stand = dict(stand, holders=holders)
    winners = [player for player in PLAYERS if holders.count(player) > len(holders) / 2]
    if winners:
        return dict(stand, phase="ended", winner=winners[0])
    if stand["year"] == 29:
        return dict(stand, phase="ended")
    if any(wants(stand, player) for player in PLAYERS):
        return dict(stand, phase="builds")
    return dict(stand, phase="orders", year=stand["year"] + 1, season=0)


def all_news(stand):
    """All news that are not refused."""
    choices = [news_of(stand, player) for player in PLAYERS]
    for parts in itertools.product(*choices):
        news = tuple(sorted(itertools.chain(*parts)))
        if len(set(stand["board"][1]) ^ set(news)) <= 16:
            yield news


def news_of(stand, player):
    (chart, pieces), many = stand["board"], wants(stand, player)
    if many <= 0:
        return list(itertools.combinations([piece for piece in pieces if piece[1] == player], -many))
    free = [(centre, player) for centre, holder in zip(chart[2], stand["holders"])
            if holder == player and centre not in dict(pieces)]
    return [some for size in range(many + 1) for some in itertools.combinations(free, size)]


def all_outs(stand):
    return list(round_of(stand["board"], stand["orders"]).all_outs())


def refusal(stand, word, argument):
    """None if the deed is done, otherwise the error's name and fields."""
    phase = {"go_on": "orders", "withdraw": "outs", "build": "builds"}[word]
    if stand["phase"] != phase:
        return ("NotNow", shown({"phase": stand["phase"]}))
    if word == "go_on":
        error = error_of_orders(stand["board"], argument)
        return None if error is None else ("BadOrders", shown({"error": error}))
    right = all_outs(stand) if word == "withdraw" else all_news(stand)
    return None if shown(argument) in map(shown, right) else ("Unfit", "{}")


def drawn_push_orders(draw, board):
    """Orders in which some pieces go with backs at others."""
    places = range(len(board[1]))
    orders = [draw.choice(all_orders(board, place)) for place in places]
    mixed = draw.sample(places, len(places))
    for goer, backer, struck in zip(mixed[::3], mixed[1::3], mixed[2::3]):
        fields = [board[1][place][0] for place in (goer, struck)]
        push, back = ("go", fields[1]), ("back", *fields)
        if push in all_orders(board, goer) and back in all_orders(board, backer):
            orders[goer], orders[backer] = push, back
    return tuple(orders)


def drawn_deed(draw, stand):
    """A deed that is not refused, by the phase that there is."""
    if stand["phase"] == "orders":
        return ("go_on", drawn_push_orders(draw, stand["board"]))
    if stand["phase"] == "outs":
        return ("withdraw", draw.choice(all_outs(stand)))
    return ("build", draw.choice(list(itertools.islice(all_news(stand), 500))))


def drawn_log(seed, chart, pieces, most=1000):
    """A log, drawn alike each time, up to the end of the game or of so many deeds."""
    draw = random.Random(seed)
    stand = new_stand(chart, pieces)
    while stand["phase"] != "ended" and len(stand["log"]) < most:
        stand = stand_with(stand, drawn_deed(draw, stand))
    return stand["log"]


def game_of(chart, pieces, *log):
    game = Game(chart, pieces)
    for word, argument in log:
        getattr(game, word)(argument)
    return game


def stand_of(game):
    return {name: getattr(game, name) for name in ATTRIBUTES}
