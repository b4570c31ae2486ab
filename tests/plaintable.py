"""A table as [M] asks for it, over the plain game of the tests: how it stands is told by all deeds done anew."""
from tests.plain import error_of_board, is_number, is_order_of
from tests.plaingames import PLAYERS, news_of, new_stand, round_of, stand_with, wants
from tests.support import shown


class Refused(Exception):
    """What a call is refused with: the error's name and fields."""


def refuse(name, **fields):
    raise Refused(("raised", name, shown(fields)))


class PlainTable:
    def __init__(self, chart, pieces):
        assert error_of_board((chart, pieces)) is None
        self.stand = new_stand(chart, pieces)
        self.things = [None] * 6
        self.journal = ()

    def told(self, word, *arguments):
        """What a call comes to."""
        try:
            return ("returned", shown(getattr(self, word)(*arguments)))
        except Refused as error:
            return error.args[0]

    def check_player(self, player):
        if not is_number(player) or player not in PLAYERS:
            refuse("Unfit")

    def check_going_on(self):
        if self.stand["phase"] == "ended":
            refuse("NotNow", phase="ended")

    def hand_in(self, player, thing):
        self.check_player(player)
        self.check_going_on()
        if not self.is_right(player, thing):
            refuse("Unfit")
        self.things[player] = thing

    def take_back(self, player):
        self.check_player(player)
        if self.things[player] is None:
            refuse("Unfit")
        self.things[player] = None

    def view(self, player):
        self.check_player(player)
        stand = self.stand
        return (stand["year"], stand["season"], stand["phase"], stand["board"], stand["holders"], stand["winner"],
                self.things[player], tuple(other for other in PLAYERS if self.things[other] is not None))

    def choices(self, player):
        """In the phases "orders" and "outs": for each field of which the player may tell, whether an item fits."""
        board = self.stand["board"]
        if self.stand["phase"] == "orders":
            return {field: lambda item, place=place: is_order_of(board, place, item)
                    for place, (field, owner) in enumerate(board[1]) if owner == player}
        told = round_of(board, self.stand["orders"])
        return {board[1][place][0]: lambda item, fields=fields: item is None or (is_number(item) and item in fields)
                for (place, _), fields in zip(told.pushed_out(), told.exits()) if board[1][place][1] == player}

    def is_right(self, player, thing):
        if type(thing) is not tuple:
            return False
        if self.stand["phase"] == "builds":
            return shown(thing) in map(shown, news_of(self.stand, player))
        if not all(type(pair) is tuple and len(pair) == 2 and is_number(pair[0]) for pair in thing):
            return False
        fields = [pair[0] for pair in thing]
        choices = self.choices(player)
        return fields == sorted(set(fields)) and all(field in choices and choices[field](item) for field, item in thing)

    def close(self):
        self.check_going_on()
        told = {field: item for thing in self.things if thing is not None for field, item in thing}
        board, phase = self.stand["board"], self.stand["phase"]
        if phase == "orders":
            orders = tuple(told.get(field, ("stay",)) for field, _ in board[1])
            line, deed = self.orders_line(board, orders), ("go_on", orders)
        elif phase == "outs":
            pushed = [board[1][place][0] for place, _ in round_of(board, self.stand["orders"]).pushed_out()]
            outs = tuple(told.get(field) for field in pushed)
            line = " ".join("-" if out is None else str(out) for out in outs)
            deed = ("withdraw", outs)
        else:
            news = self.news()
            line, deed = " ".join(f"{field}:{'abcdef'[player]}" for field, player in news), ("build", news)
        self.stand = stand_with(self.stand, deed)
        self.things = [None] * 6
        self.journal += (f"{phase} {line}",)
        return self.stand["phase"]

    def orders_line(self, board, orders):
        return "; ".join(" ".join(map(str, (field, *order))) for (field, _), order in zip(board[1], orders))

    def news(self):
        pieces = self.stand["board"][1]
        taken_off, built = [], []
        for player in PLAYERS:
            thing, many = self.things[player], wants(self.stand, player)
            if many < 0:
                own = [piece for piece in pieces if piece[1] == player]
                taken_off += own[many:] if thing is None else thing
            elif thing is not None:
                built += thing
        if len(pieces) - len(taken_off) + len(built) > 16:
            built = []
        return tuple(sorted([*taken_off, *built]))
