"""What [G] asks for, written anew as plainly as can be; own orders are told field by field."""
import itertools
import random

from tests.plain import FULL, all_orders, is_near, is_number, is_order_of
from whateverothers.settling import settled


def error_of_sound(board, player, value):
    """[G2], word by word."""
    pieces = board[1]
    if type(value) is not tuple or len(value) != len(pieces):
        return "form"
    places = [place for place, piece in enumerate(pieces) if piece[1] == player]
    for place, item in enumerate(value):
        if not (is_order_of(board, place, item) if place in places else item is None):
            return ("order", place)
    own = {pieces[place][0]: value[place] for place in places}
    goals = {field: order[1] for field, order in own.items() if order[0] == "go"}
    checks = (("foreign", lambda field: own[field][0] == "back" and own[field][1] not in own),
              ("same", lambda field: any(goals[other] == goals.get(field) for other in goals if other < field)),
              ("stays", lambda field: field in goals and goals[field] in own and goals[field] not in goals),
              ("meet", lambda field: field in goals and goals.get(goals[field]) == field))
    for word, is_wrong in checks:
        for place in places:
            if is_wrong(pieces[place][0]):
                return (word, place)
    return None


class Own:
    """All that [G3] and [G4] tell of sound own orders."""

    def __init__(self, board, own):
        self.board = board
        self.places = {field: place for place, (field, _) in enumerate(board[1])}
        self.own = {field: own[place] for field, place in self.places.items() if own[place] is not None}
        self.foreign = [field for field in self.places if field not in self.own]

    def goal(self, field):
        order = self.own[field]
        return order[1] if order[0] == "go" else None

    def near_ones(self, goal):
        return [field for field in self.foreign if is_near(self.board[0], field, goal)]

    def backs(self, field):
        aim = field if self.goal(field) is None else self.goal(field)
        return [other for other, order in self.own.items() if order == ("back", field, aim)]

    def is_struck(self, field, aim):
        return any(self.goal(other) == field for other in self.own if other != aim)

    def way(self, field):
        """Where the own piece goes to that stands where this one goes to, None if there is none."""
        goal = self.goal(field)
        return self.goal(goal) if goal in self.own else None

    def bars(self, field):
        goal = self.goal(field)
        if goal is None:
            told = [("pusher", main, field) for main in self.near_ones(field)]
        elif goal in self.own:
            told = [("rival", main, goal) for main in self.near_ones(goal) if main != self.way(field)]
        else:
            told = [("rival", main, goal) for main in self.near_ones(goal)]
            if goal in self.foreign:
                told = [("holder", goal, goal), ("meeter", goal, field)] + told
        return tuple(self.bar(field, *item) for item in told)

    def bar(self, field, kind, main, aim):
        helpers = [other for other in self.near_ones(aim) if other != main and not self.is_struck(other, aim)]
        helpers = [other for other in helpers if other != self.way(field)]
        backs = self.backs(field)
        near_backs = {other for back in backs for other in self.near_ones(back)}
        cutters = [other for other in near_backs if other not in [main, self.goal(field), *helpers]]
        return (kind, self.places[main], *[tuple(sorted(self.places[other] for other in others))
                                           for others in (helpers, cutters, backs)])


def pairs_of(board, bar):
    fields = [field for field, _ in board[1]]
    return tuple(sorted((cutter, back) for cutter in bar[3] for back in bar[4]
                        if is_near(board[0], fields[cutter], fields[back])))


def harm_of(board, bar):
    """The helpers and the greatest number of pairs with unlike cutters and unlike backs, by trying all."""
    return len(bar[2]) + most_cuts(list(bar[4]), pairs_of(board, bar), ())


def most_cuts(backs, pairs, taken):
    if not backs:
        return 0
    free = [cutter for cutter, back in pairs if back == backs[0] and cutter not in taken]
    cut = [1 + most_cuts(backs[1:], pairs, (*taken, cutter)) for cutter in free]
    return max([most_cuts(backs[1:], pairs, taken), *cut])


def chain_of(board, own, place):
    """[G5]: the places, told along the fields to which own pieces go."""
    told = Own(board, own)
    chain = [board[1][place][0]]
    while told.goal(chain[-1]) in told.own and told.goal(chain[-1]) not in chain:
        chain.append(told.goal(chain[-1]))
    return tuple(told.places[field] for field in chain)


def in_the_way(board, own, place):
    """[H1]: the bars in the way, in order."""
    told = Own(board, own)
    return [bar for link in chain_of(board, own, place) for bar in told.bars(board[1][link][0])]


def is_sure(board, own, field):
    """[G5], by bars told anew."""
    told = Own(board, own)
    goes = told.goal(field) is not None
    return all(harm_of(board, bar) + goes <= len(bar[4]) for bar in in_the_way(board, own, told.places[field]))


def is_shut(board, own, field):
    """[G5], by bars told anew."""
    told = Own(board, own)
    goers = [start for start in told.own if told.goal(start) == field]
    if not told.near_ones(field):
        return True
    if not goers:
        return False
    bars = [told.bar(goers[0], "rival", main, field) for main in told.near_ones(field)]
    return all(harm_of(board, bar) <= len(bar[4]) for bar in bars)


def told_by_all(board, own):
    """By all orders of the others: of each own place whether what is ordered always comes about, of each free field
    whether no foreign piece ever comes in."""
    fields = [field for field, _ in board[1]]
    kept = {place: True for place, item in enumerate(own) if item is not None}
    shut = {field: True for field in range(board[0][0]) if field not in fields}
    for orders in orders_that_keep(board, own):
        told = settled(board, orders)
        into = {order[1]: place for place, order in enumerate(orders) if order[0] == "go" and told[place]}
        for place in kept:
            comes_about = told[place] if orders[place][0] == "go" else fields[place] not in into
            kept[place] = kept[place] and comes_about
        for field, place in into.items():
            if field in shut and own[place] is None:
                shut[field] = False
    return kept, shut


def many_orders(board, own):
    """How many orders keep own."""
    many = 1
    for place, item in enumerate(own):
        many *= len(all_orders(board, place)) if item is None else 1
    return many


def error_of_paper(board, own, place, value):
    """[H3], word by word."""
    bars = in_the_way(board, own, place)
    if type(value) is not tuple or len(value) != 2 or value[0] not in ("sure", "broken"):
        return "form"
    if value[0] == "broken":
        return error_of_breaking(board, own, place, value[1])
    if type(value[1]) is not tuple or len(value[1]) != len(bars):
        return "form"
    goes = own[place][0] == "go"
    for spot, bar in enumerate(bars):
        if not is_cover_of(bar[3], bar[4], pairs_of(board, bar), value[1][spot]):
            return ("cover", spot)
        pieces, backs = value[1][spot]
        if not len(bar[2]) + len(pieces) + len(backs) + goes <= len(bar[4]):
            return ("cover", spot)
    return None


def error_of_breaking(board, own, place, orders):
    if type(orders) is not tuple or len(orders) != len(own):
        return "orders"
    for at, order in enumerate(orders):
        if not is_order_of(board, at, order) or own[at] not in (None, order):
            return "orders"
    told, field = settled(board, orders), board[1][place][0]
    if own[place][0] == "go":
        return "holds" if told[place] else None
    pushed = any(told[goer] for goer, order in enumerate(orders) if order == ("go", field))
    return None if pushed else "holds"


def is_cover_of(cutters, backs, pairs, value):
    """[H2], word by word."""
    if type(value) is not tuple or [type(part) for part in value] != [tuple, tuple]:
        return False
    for part, items in zip(value, (cutters, backs)):
        if not all(is_number(item) and item in items for item in part):
            return False
        if any(one >= other for one, other in zip(part, part[1:])):
            return False
    return all(cutter in value[0] or back in value[1] for cutter, back in pairs)


def drawn_pairs(seed, turns, most_cutters, most_backs):
    """Cutters, backs, and pairs of them, thin ones and thick ones; the integers are dealt out in any way."""
    draw = random.Random(seed)
    for _ in range(turns):
        many, more = draw.randint(0, most_cutters), draw.randint(0, most_backs)
        dealt = draw.sample(range(16), many + more)
        cutters, backs = tuple(sorted(dealt[:many])), tuple(sorted(dealt[many:]))
        thick = draw.choice((0.2, 0.4, 0.7, 1))
        yield cutters, backs, tuple(pair for pair in itertools.product(cutters, backs) if draw.random() < thick)


def most_pairs(backs, pairs):
    """How many pairs a greatest matching has, told back by back for each set of cutters that may be taken."""
    best = {frozenset(): 0}
    for back in backs:
        further = dict(best)
        for taken, many in best.items():
            for cutter, other in pairs:
                if other == back and cutter not in taken:
                    key = taken | {cutter}
                    further[key] = max(further.get(key, 0), many + 1)
        best = further
    return max(best.values())


def orders_that_keep(board, own):
    choices = [all_orders(board, place) if item is None else (item,) for place, item in enumerate(own)]
    return itertools.product(*choices)


def all_own(board, player):
    choices = [all_orders(board, place) if owner == player else (None,) for place, (_, owner) in enumerate(board[1])]
    return itertools.product(*choices)


def drawn_own(seed, turns, most_fields=9, most_pieces=9, players=3):
    """Boards with own orders of one of the players, mostly sound, with many gos and fitting backs."""
    draw = random.Random(seed)
    for _ in range(turns):
        many = draw.randint(3, most_fields)
        pairs = list(itertools.combinations(range(many), 2))
        roads = tuple(sorted(draw.sample(pairs, draw.randint(len(pairs) // 3, len(pairs)))))
        fields = sorted(draw.sample(range(many), draw.randint(1, min(many, most_pieces))))
        board = ((many, roads, ()), tuple((field, draw.randrange(players)) for field in fields))
        player = draw.randrange(players)
        yield board, player, own_drawn(draw, board, player)


def own_drawn(draw, board, player):
    orders = [None] * len(board[1])
    places = [place for place, piece in enumerate(board[1]) if piece[1] == player]
    for place in places:
        gos = [order for order in all_orders(board, place) if order[0] == "go"]
        orders[place] = draw.choice(gos) if gos and draw.random() < 0.5 else ("stay",)
    for place in places:
        told = {(board[1][other][0], *orders[other][1:]) for other in places if other != place}
        fitting = [order for order in all_orders(board, place) if order[0] == "back"
                   and ((order[1], order[2]) in told or (order[1] == order[2] and (order[1],) in told))]
        if orders[place] == ("stay",) and fitting and draw.random() < 0.7:
            orders[place] = draw.choice(fitting)
    return tuple(orders)


def crowd(seed, many=16):
    """A board of sixteen pieces whose fields are not all near each other, with sound own orders of player 0."""
    draw = random.Random(seed)
    roads = tuple(sorted(draw.sample(FULL[1], 100)))
    fields = sorted(draw.sample(range(24), many))
    board = ((24, roads, ()), tuple((field, draw.randrange(2)) for field in fields))
    while True:
        own = own_drawn(draw, board, 0)
        if error_of_sound(board, 0, own) is None:
            return board, own
