"""What the document asks for, written anew and as plainly as can be, for the tests to compare with."""
import itertools
import random
import re

WHEEL = (5, ((0, 1), (0, 3), (0, 4), (1, 2), (1, 4), (2, 3), (2, 4), (3, 4)), (0, 2))
LINE = (4, ((0, 1), (1, 2), (2, 3)), (1,))
STAR = (6, ((0, 1), (0, 2), (0, 3), (0, 4), (0, 5)), ())
FULL = (24, tuple(itertools.combinations(range(24), 2)), tuple(range(24)))
BARE = (24, (), ())
THREE = (WHEEL, ((0, 0), (1, 1), (4, 0)))
FOUR = (WHEEL, ((0, 0), (1, 1), (3, 1), (4, 0)))


def is_number(value):
    return type(value) is int


def is_field(value, many):
    return is_number(value) and value in range(many)


def error_of_chart(value):
    if type(value) is not tuple or [type(item) for item in value[1:]] != [tuple, tuple]:
        return "form"
    many, roads, centres = value
    if not is_number(many) or many not in range(1, 25):
        return "many"
    last = (-1, -1)
    for place, road in enumerate(roads):
        if type(road) is not tuple or len(road) != 2 or not all(is_field(end, many) for end in road):
            return ("road", place)
        if not road[0] < road[1] or not last < road:
            return ("road", place)
        last = road
    last = -1
    for place, centre in enumerate(centres):
        if not is_field(centre, many) or not last < centre:
            return ("centre", place)
        last = centre
    return None


def error_of_board(value):
    if type(value) is not tuple or len(value) != 2:
        return "form"
    wrong = error_of_chart(value[0])
    if wrong is not None:
        return ("chart", wrong)
    if type(value[1]) is not tuple or len(value[1]) > 16:
        return "pieces"
    last = -1
    for place, piece in enumerate(value[1]):
        if type(piece) is not tuple or len(piece) != 2:
            return ("piece", place)
        if not is_field(piece[0], value[0][0]) or not is_field(piece[1], 6) or not last < piece[0]:
            return ("piece", place)
        last = piece[0]
    return None


def is_near(chart, one, other):
    return (min(one, other), max(one, other)) in chart[1]


def is_order_of(board, place, value):
    """[B2], word by word."""
    chart, pieces = board
    own = pieces[place][0]
    if type(value) is not tuple or value == () or type(value[0]) is not str:
        return False
    if not all(is_field(part, chart[0]) for part in value[1:]):
        return False
    if value[0] == "stay":
        return len(value) == 1
    if value[0] == "go":
        return len(value) == 2 and is_near(chart, own, value[1])
    if value[0] != "back" or len(value) != 3:
        return False
    _, backed, aim = value
    if backed == own or backed not in [field for field, _ in pieces] or not is_near(chart, own, aim):
        return False
    return aim == backed or (is_near(chart, backed, aim) and aim != own)


def error_of_orders(board, value):
    if type(value) is not tuple or len(value) != len(board[1]):
        return "form"
    for place, item in enumerate(value):
        if not is_order_of(board, place, item):
            return ("order", place)
    return None


def tried_orders(chart):
    """Every tuple that looks like an order, with fields also beyond those of the chart."""
    fields = range(-1, chart[0] + 1)
    yield ("stay",)
    yield from (("go", goal) for goal in fields)
    yield from (("back", other, goal) for other in fields for goal in fields)


def all_orders(board, place):
    return tuple(order for order in tried_orders(board[0]) if is_order_of(board, place, order))


def orders_of_all(board):
    """Every orders of a board."""
    return itertools.product(*[all_orders(board, place) for place in range(len(board[1]))])


def is_chart_text(value):
    """Whether value is written as the text of a chart is, and of a chart that there is."""
    number, road = "(?:0|[1-9][0-9]*)", "(?: (?:0|[1-9][0-9]*)-(?:0|[1-9][0-9]*))"
    if type(value) is not str or not re.fullmatch(f"{number}:{road}*;(?: {number})*", value):
        return False
    head, roads, centres = re.split("[:;]", value)
    if any(len(word) > 400 for word in re.findall("[0-9]+", value)):
        return False
    told = tuple(tuple(int(end) for end in pair.split("-")) for pair in roads.split())
    return error_of_chart((int(head), told, tuple(int(word) for word in centres.split()))) is None


class Rules:
    """The rules of [C1] and [C2] of one board, its orders and one settlement, told field by field."""

    def __init__(self, board, orders, settlement):
        self.order = {piece[0]: order for piece, order in zip(board[1], orders)}
        self.player = dict(board[1])
        self.told = {piece[0]: item for piece, item in zip(board[1], settlement)}
        self.fields = [field for field, _ in board[1]]

    def goes(self, field, goal):
        return self.order[field] == ("go", goal)

    def goers(self, goal):
        return [field for field in self.fields if self.goes(field, goal)]

    def fits(self, field):
        _, backed, aim = self.order[field]
        if backed == aim:
            return self.order[backed][0] in ("stay", "back")
        return self.goes(backed, aim)

    def force(self, field, without=None):
        """1 and the backs that fit and stand, without those of one player."""
        count = 1
        for other in self.fields:
            if self.order[other][0] == "back" and self.order[other][1] == field and self.player[other] != without:
                count += self.fits(other) and self.told[other]
        return count

    def stands(self, field):
        aim = self.order[field][2]
        cut = any(self.player[goer] != self.player[field] and goer != aim for goer in self.goers(field))
        lost = any(self.told[goer] for goer in self.goers(field))
        return self.fits(field) and not cut and not lost

    def wins(self, start):
        goal = self.order[start][1]
        there = goal in self.fields
        gone = there and self.order[goal][0] == "go" and not self.goes(goal, start) and self.told[goal]
        thrust = self.force(start)
        if there and not gone:
            thrust = self.force(start, self.player[goal])
            if self.player[goal] == self.player[start]:
                return False
            elsewhere = self.order[goal][0] == "go" and not self.goes(goal, start)
            if thrust <= (1 if elsewhere else self.force(goal)):
                return False
        for rival in self.goers(goal):
            repelled = there and self.goes(goal, rival) and self.told[goal]
            if rival != start and not repelled and thrust <= self.force(rival):
                return False
        return True

    def right(self, field):
        word = self.order[field][0]
        return {"stay": lambda _: True, "go": self.wins, "back": self.stands}[word](field)

    def error(self):
        for place, field in enumerate(self.fields):
            if self.told[field] is not self.right(field):
                return ("order", place)
        return None


def settlement_tuples(board):
    return itertools.product((False, True), repeat=len(board[1]))


def errors_of_settlements(board, orders):
    """What is to be told of each tuple of bools."""
    return [Rules(board, orders, value).error() for value in settlement_tuples(board)]


def drawn_boards(seed, turns, most_fields=7, most_pieces=6, players=3):
    """Boards with orders that meet much, drawn alike each time."""
    draw = random.Random(seed)
    for _ in range(turns):
        many = draw.randint(2, most_fields)
        pairs = list(itertools.combinations(range(many), 2))
        roads = tuple(sorted(draw.sample(pairs, draw.randint(len(pairs) // 2, len(pairs)))))
        fields = sorted(draw.sample(range(many), draw.randint(1, min(many, most_pieces))))
        board = ((many, roads, ()), tuple((field, draw.randrange(players)) for field in fields))
        yield board, drawn_orders(draw, board)


def drawn_orders(draw, board):
    """Orders that mostly go to few fields, with backs that mostly fit."""
    goals = draw.sample(range(board[0][0]), 2)
    words = [draw.choice(("go", "go", "back", "back", "stay")) for _ in board[1]]
    orders = [("stay",)] * len(words)
    for place, word in enumerate(words):
        gos = [order for order in all_orders(board, place) if order[0] == "go"]
        liked = [order for order in gos if order[1] in goals]
        if word == "go" and gos:
            orders[place] = draw.choice(liked or gos)
    gone = {field: order[1] for (field, _), order in zip(board[1], orders) if order[0] == "go"}
    for place, word in enumerate(words):
        backs = [order for order in all_orders(board, place) if order[0] == "back"]
        fitting = [order for order in backs if gone.get(order[1], order[1]) == order[2]]
        if word == "back" and backs:
            orders[place] = draw.choice(fitting if fitting and draw.random() < 0.8 else backs)
    return tuple(orders)


def renamed(board, names):
    return (board[0], tuple((field, names[player]) for field, player in board[1]))
