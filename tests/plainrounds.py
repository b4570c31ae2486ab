"""What [D] and [E] ask for, written anew as plainly as can be: by trying all tuples of bools."""
import itertools
import random

from tests.plain import FULL, Rules, all_orders, is_near, settlement_tuples


class Round:
    """All that is told of one board and its orders; kept are all settlements that keep the rules, if they are known."""

    def __init__(self, board, orders, kept=None):
        self.board, self.orders = board, orders
        self.fields = [field for field, _ in board[1]]
        tried = settlement_tuples(board) if kept is None else kept
        self.kept = tuple(sorted(value for value in tried if Rules(board, orders, value).error() is None))
        self.settled = tuple(any(items) for items in zip(*self.kept))
        self.rules = Rules(board, orders, self.settled)

    def place(self, field):
        return self.fields.index(field)

    def standing(self):
        return tuple(place for place, order in enumerate(self.orders)
                     if order[0] == "back" and all(value[place] for value in self.kept))

    def force(self, place):
        return self.rules.force(self.fields[place])

    def rings(self):
        """All rings, loose or not, found by going from piece to piece."""
        found = set()
        for start in range(len(self.fields)):
            ring, goal = [start], self.goal_place(start)
            while goal is not None and goal not in ring:
                ring.append(goal)
                goal = self.goal_place(goal)
            if goal == start and len(ring) > 2:
                least = ring.index(min(ring))
                found.add(tuple(ring[least:] + ring[:least]))
        return found

    def goal_place(self, place):
        order = self.orders[place]
        return self.place(order[1]) if order[0] == "go" and order[1] in self.fields else None

    def loose_rings(self):
        told = {ring: [all(value[place] for place in ring) for value in self.kept] for ring in self.rings()}
        return tuple(sorted(ring for ring, all_win in told.items() if True in all_win and False in all_win))

    def goes(self, field):
        return self.rules.order[field][0] == "go"

    def wins(self, field):
        return self.goes(field) and self.rules.told[field]

    def pusher(self, field):
        """The field from which a go into field wins, None if none does."""
        winners = [goer for goer in self.rules.goers(field) if self.rules.told[goer]]
        assert len(winners) < 2
        return winners[0] if winners else None

    def leaves(self, field, goer):
        return self.wins(field) and not self.rules.goes(field, goer)

    def reasons(self):
        by_word = {"stay": self.reason_of_stay, "back": self.reason_of_back, "go": self.reason_of_go}
        found = [by_word[order[0]](field) for field, order in zip(self.fields, self.orders)]
        return tuple((word, *[self.place(other) for other in others]) for word, *others in found)

    def reason_of_stay(self, field):
        pusher = self.pusher(field)
        return ("stays",) if pusher is None else ("pushed", pusher)

    def reason_of_back(self, field):
        if not self.rules.fits(field):
            return ("unfit",)
        player, aim = self.rules.player[field], self.rules.order[field][2]
        cutters = [goer for goer in self.rules.goers(field) if self.rules.player[goer] != player and goer != aim]
        if cutters:
            return ("cut", min(cutters))
        pusher = self.pusher(field)
        return ("stands",) if pusher is None else ("lost", pusher)

    def reason_of_go(self, field):
        goal = self.rules.order[field][1]
        there = goal in self.fields
        if self.wins(field):
            if not there:
                return ("free",)
            return ("follows" if self.leaves(goal, field) else "beats", goal)
        return self.reason_of_loss(field, goal, there and not self.leaves(goal, field))

    def reason_of_loss(self, field, goal, is_barred):
        rules = self.rules
        thrust = rules.force(field, rules.player[goal] if is_barred else None)
        if is_barred and rules.player[goal] == rules.player[field]:
            return ("own", goal)
        if is_barred and rules.goes(goal, field) and rules.force(goal) >= thrust:
            return ("met", goal)
        holds = 1 if is_barred and self.goes(goal) else rules.force(goal)
        if is_barred and not rules.goes(goal, field) and holds >= thrust:
            return ("held", goal)
        rivals = [other for other in rules.goers(goal) if other != field and rules.force(other) >= thrust]
        return ("rival", min(other for other in rivals if not self.is_repelled(other, goal)))

    def is_repelled(self, field, goal):
        return goal in self.fields and self.wins(goal) and self.rules.goes(goal, field)

    def pushed_out(self):
        return tuple((self.place(field), self.pusher(field)) for field in self.fields
                     if self.pusher(field) is not None and not self.wins(field))

    def fought_over(self):
        return tuple(field for field in range(self.board[0][0])
                     if len(self.rules.goers(field)) > 1 and self.pusher(field) is None)

    def left(self):
        """Who stands where behind the round, without those that are pushed out."""
        out = [place for place, _ in self.pushed_out()]
        return {self.rules.order[field][1] if self.wins(field) else field: self.rules.player[field]
                for field in self.fields if self.place(field) not in out}

    def exits(self):
        barred = set(self.left()) | set(self.fought_over())
        return tuple(tuple(field for field in range(self.board[0][0]) if is_near(self.board[0], field, self.fields[place])
                           and field != pusher and field not in barred) for place, pusher in self.pushed_out())

    def all_outs(self):
        return itertools.product(*[(None, *fields) for fields in self.exits()])

    def behind(self, outs):
        pieces = dict(self.left())
        for (place, _), out in zip(self.pushed_out(), outs):
            if out is not None and sum(other == out for other in outs) == 1:
                assert out not in pieces
                pieces[out] = self.board[1][place][1]
        return tuple(sorted(pieces.items()))


def drawn_rings(seed, turns, most_pieces=7, players=3):
    """Boards on which some of the pieces go round in a ring, and others mostly come at it or back its pieces."""
    draw = random.Random(seed)
    for _ in range(turns):
        fields = sorted(draw.sample(range(most_pieces + 1), draw.randint(3, most_pieces)))
        board = (FULL, tuple((field, draw.randrange(players)) for field in fields))
        ring = draw.sample(fields, draw.randint(3, len(fields)))
        gone = dict(zip(ring, ring[1:] + ring[:1]))
        orders = []
        for place, field in enumerate(fields):
            backs = [("back", other, goal) for other, goal in gone.items() if field not in (other, goal)]
            aside = draw.choice(backs) if backs and draw.random() < 0.6 else ("go", draw.choice(ring))
            orders.append(("go", gone[field]) if field in gone else aside if aside[1] != field else ("stay",))
        if draw.random() < 0.2:
            place = draw.randrange(len(fields))
            orders[place] = draw.choice([order for order in all_orders(board, place) if order[-1] not in range(8, 24)])
        yield board, tuple(orders)


def drawn_pushes(seed, turns, most_pieces=7, players=3):
    """Boards on which pieces go with backs at others, which stay, back or go; not all fields are near each other."""
    draw = random.Random(seed)
    for _ in range(turns):
        many = most_pieces + 1
        pairs = list(itertools.combinations(range(many), 2))
        roads = tuple(sorted(draw.sample(pairs, draw.randint(len(pairs) * 2 // 3, len(pairs)))))
        fields = sorted(draw.sample(range(many), draw.randint(3, most_pieces)))
        board = ((many, roads, ()), tuple((field, draw.randrange(players)) for field in fields))
        orders = [draw.choice(all_orders(board, place)) for place in range(len(fields))]
        mixed = draw.sample(range(len(fields)), len(fields))
        for goer, backer, struck in zip(mixed[::3], mixed[1::3], mixed[2::3]):
            push, back = ("go", fields[struck]), ("back", fields[goer], fields[struck])
            if push in all_orders(board, goer) and back in all_orders(board, backer):
                orders[goer], orders[backer] = push, back
        yield board, tuple(orders)


def fields_renamed(board, orders, names):
    """The same board with its fields called otherwise; and the places of its pieces there, in the order of old."""
    (many, roads, centres), pieces = board
    roads = tuple(sorted(tuple(sorted((names[one], names[other]))) for one, other in roads))
    chart = (many, roads, tuple(sorted(names[field] for field in centres)))
    told = sorted((names[field], player, order) for (field, player), order in zip(pieces, orders))
    renamed = tuple((order[0], *[names[field] for field in order[1:]]) for _, _, order in told)
    fields = [field for field, _, _ in told]
    places = [fields.index(names[field]) for field, _ in pieces]
    return (chart, tuple((field, player) for field, player, _ in told)), renamed, places
