"""Which backs stand, and forces [D1], [D2], [D5]."""
import unittest

from tests.plain import FULL, THREE, WHEEL, drawn_boards, orders_of_all, renamed, settlement_tuples
from tests.plainrounds import Round, drawn_pushes, drawn_rings, fields_renamed
from tests.situations import SITUATIONS, told
from tests.support import is_plain, returns
from whateverothers.forces import force, standing
from whateverothers.rules import fits, settlement_error

# What is shown, the chart, pieces, orders, the places of the backs that stand, and all forces.
BACKS = (
    ("nobody", WHEEL, "", "", (), []),
    ("nobody backs", WHEEL, "0:a 1:b", "0 go 1; 1 stay", (), [1, 1]),
    ("a go", WHEEL, "0:a 1:b 4:a", "0 go 1; 1 stay; 4 back 0 1", (2,), [2, 1, 1]),
    ("a staying", WHEEL, "0:a 1:b 4:a", "0 stay; 1 go 0; 4 back 0 0", (2,), [2, 1, 1]),
    ("what backs", WHEEL, "0:a 1:b 4:a", "0 back 1 1; 1 stay; 4 back 0 0", (0, 2), [2, 2, 1]),
    ("each other", WHEEL, "0:a 4:b", "0 back 4 4; 4 back 0 0", (0, 1), [2, 2]),
    ("round in a ring", WHEEL, "0:a 1:b 4:c", "0 back 1 1; 1 back 4 4; 4 back 0 0", (0, 1, 2), [2, 2, 2]),
    ("unfit: the backed piece stays", WHEEL, "0:a 4:a", "0 stay; 4 back 0 1", (), [1, 1]),
    ("unfit: the backed piece goes", WHEEL, "0:a 4:a", "0 go 1; 4 back 0 0", (), [1, 1]),
    ("unfit: the backed piece goes elsewhere", WHEEL, "0:a 4:a", "0 go 3; 4 back 0 1", (), [1, 1]),
    ("unfit: the backed piece backs", WHEEL, "0:a 1:b 4:a", "0 back 1 1; 1 stay; 4 back 0 3", (0,), [1, 2, 1]),
    ("cut from aside", WHEEL, "0:a 1:b 3:b 4:a", "0 go 1; 1 stay; 3 go 4; 4 back 0 1", (), [1] * 4),
    ("cut by a third player", WHEEL, "0:a 1:b 3:c 4:a", "0 go 1; 1 stay; 3 go 4; 4 back 0 1", (), [1] * 4),
    ("cut by the piece that it helps", FULL, "0:a 1:b 4:c", "0 stay; 1 go 4; 4 back 0 0", (), [1] * 3),
    ("cut by a go with a back", FULL, "0:a 1:b 3:b 4:a 5:b", "0 go 1; 1 stay; 3 go 4; 4 back 0 1; 5 back 3 4",
     (4,), [1, 1, 2, 1, 1]),
    ("come at by own ones", WHEEL, "0:a 1:b 3:a 4:a", "0 go 1; 1 stay; 3 go 4; 4 back 0 1", (3,), [2, 1, 1, 1]),
    ("come at by own ones with backs", FULL, "0:a 1:b 3:a 4:a 5:b",
     "0 go 1; 1 stay; 3 go 4; 4 back 0 1; 5 back 3 4", (3, 4), [2, 1, 2, 1, 1]),
    ("come at from the field aimed at", WHEEL, "0:a 1:b 4:a", "0 go 1; 1 go 4; 4 back 0 1", (2,), [2, 1, 1]),
    ("own ones come from the field aimed at", FULL, "0:a 1:a 4:a 5:b",
     "0 go 1; 1 go 4; 4 back 0 1; 5 back 1 4", (2, 3), [2, 2, 1, 1]),
    ("pushed out from the field aimed at", WHEEL, "0:a 1:b 2:b 4:a", "0 go 1; 1 go 4; 2 back 1 4; 4 back 0 1",
     (2,), [1, 2, 1, 1]),
    ("held against the field aimed at by a back", FULL, "0:a 1:b 2:b 4:a 5:a",
     "0 go 1; 1 go 4; 2 back 1 4; 4 back 0 1; 5 back 4 4", (2, 3, 4), [2, 2, 1, 2, 1]),
    ("held by a back that is cut", FULL, "0:a 1:b 2:b 4:a 5:a 6:c",
     "0 go 1; 1 go 4; 2 back 1 4; 4 back 0 1; 5 back 4 4; 6 go 5", (2,), [1, 2, 1, 1, 1, 1]),
    ("pushed out with a back that is cut", FULL, "0:a 1:b 2:b 4:a 6:c",
     "0 go 1; 1 go 4; 2 back 1 4; 4 back 0 1; 6 go 2", (3,), [2, 1, 1, 1, 1]),
    ("a back of its own player helps not to push it out", FULL, "0:a 1:b 2:a 4:a",
     "0 go 1; 1 go 4; 2 back 1 4; 4 back 0 1", (2, 3), [2, 2, 1, 1]),
    ("an own rival keeps off who comes from the field aimed at", FULL, "0:a 1:b 2:b 4:a 5:a 6:a",
     "0 go 1; 1 go 4; 2 back 1 4; 4 back 0 1; 5 go 4; 6 back 5 4", (2, 3, 5), [2, 2, 1, 1, 2, 1]),
    ("an own rival alone is too weak for this", FULL, "0:a 1:b 2:b 4:a 5:a",
     "0 go 1; 1 go 4; 2 back 1 4; 4 back 0 1; 5 go 4", (2,), [1, 2, 1, 1, 1]),
    ("come at from the field aimed at and from aside", FULL, "0:a 1:b 3:b 4:a",
     "0 go 1; 1 go 4; 3 go 4; 4 back 0 1", (), [1] * 4),
    ("a back of a staying, pushed out from aside", FULL, "0:a 1:b 2:b 4:a",
     "0 stay; 1 go 4; 2 back 1 4; 4 back 0 0", (2,), [1, 2, 1, 1]),
    ("a back of a foreign go", WHEEL, "0:a 1:b 4:c", "0 go 1; 1 stay; 4 back 0 1", (2,), [2, 1, 1]),
    ("a back of a go against its own player", WHEEL, "0:a 1:b 4:b", "0 go 1; 1 stay; 4 back 0 1", (2,), [2, 1, 1]),
    ("a back of a go against an own ring", WHEEL, "0:a 1:b 2:c 4:b", "0 go 1; 1 go 4; 2 back 0 1; 4 go 0",
     (2,), [2, 1, 1, 1]),
    ("two backs of one go, one of them cut", FULL, "0:a 1:b 2:a 3:c 5:b",
     "0 go 1; 1 stay; 2 back 0 1; 3 back 0 1; 5 go 2", (3,), [2, 1, 1, 1, 1]),
    ("pushers of backing pieces one behind another", FULL, "0:a 1:b 2:c 3:a 4:b 5:c",
     "0 back 4 1; 1 go 0; 2 back 1 0; 3 go 2; 4 go 1; 5 stay", (0,), [1, 1, 1, 1, 2, 1]),
)


class Backs(unittest.TestCase):
    def test_standing_and_force(self):
        for why, chart, pieces_told, orders_told, backs, forces in BACKS:
            with self.subTest(why):
                board, orders = told(chart, pieces_told, orders_told)
                returns(self, backs, standing, board=board, orders=orders)
                for place, expected in enumerate(forces):
                    returns(self, expected, force, board=board, orders=orders, place=place)

    def test_players_called_otherwise(self):
        for why, chart, pieces_told, orders_told, backs, forces in BACKS:
            board, orders = told(chart, pieces_told, orders_told)
            for names in ((2, 1, 0), (5, 3, 4)):
                with self.subTest(why, names=names):
                    other = renamed(board, names)
                    self.assertEqual(backs, standing(other, orders))
                    self.assertEqual(forces, [force(other, orders, place) for place in range(len(orders))])


class AgainstAllSettlements(unittest.TestCase):
    def compare(self, board, orders):
        """What is told has to be so in each settlement that keeps the rules."""
        kept = [value for value in settlement_tuples(board) if settlement_error(board, orders, value) is None]
        backs = [place for place, order in enumerate(orders) if order[0] == "back"]
        for value in kept:
            self.assertEqual(tuple(place for place in backs if value[place]), standing(board, orders), (board, orders))
        stand = [place for place in standing(board, orders) if fits(board, orders, place)]
        for place, (field, _) in enumerate(board[1]):
            many = 1 + len([other for other in stand if orders[other][1] == field])
            self.assertEqual(many, force(board, orders, place), (board, orders))
        plain = Round(board, orders)
        self.assertEqual(plain.standing(), standing(board, orders))
        self.assertEqual([plain.force(place) for place in range(len(orders))],
                         [force(board, orders, place) for place in range(len(orders))])

    def test_all_orders_of_small_boards(self):
        for board in (THREE, ((3, ((0, 1), (0, 2), (1, 2)), ()), ((0, 0), (1, 1), (2, 2)))):
            for orders in orders_of_all(board):
                self.compare(board, orders)

    def test_situations(self):
        for _, chart, pieces_told, orders_told, _ in SITUATIONS:
            self.compare(*told(chart, pieces_told, orders_told))

    def test_drawn_boards(self):
        for board, orders in drawn_boards(11, 300):
            self.compare(board, orders)

    def test_drawn_boards_of_two_players(self):
        for board, orders in drawn_boards(12, 200, most_fields=8, most_pieces=7, players=2):
            self.compare(board, orders)

    def test_drawn_pushes(self):
        for board, orders in [*drawn_pushes(15, 150), *drawn_pushes(115, 100, players=2)]:
            self.compare(board, orders)

    def test_drawn_rings(self):
        for board, orders in drawn_rings(13, 200, most_pieces=6):
            self.compare(board, orders)

    def test_fields_called_otherwise(self):
        for board, orders in drawn_boards(14, 100):
            for turn in range(1, board[0][0]):
                names = [(field + turn) % board[0][0] for field in range(board[0][0])]
                other, other_orders, places = fields_renamed(board, orders, names)
                self.assertEqual(tuple(sorted(places[place] for place in standing(board, orders))),
                                 standing(other, other_orders))
                for place in range(len(orders)):
                    self.assertEqual(force(board, orders, place), force(other, other_orders, places[place]))


class Sixteen(unittest.TestCase):
    def test_all_back_one(self):
        board = (FULL, tuple((field, field % 3) for field in range(16)))
        orders = (("stay",), *[("back", 0, 0)] * 15)
        returns(self, tuple(range(1, 16)), standing, board=board, orders=orders)
        self.assertEqual([16] + [1] * 15, [force(board, orders, place) for place in range(16)])

    def test_all_back_the_next_one(self):
        board = (FULL, tuple((field, field % 2) for field in range(16)))
        orders = tuple(("back", (field + 1) % 16, (field + 1) % 16) for field in range(16))
        returns(self, tuple(range(16)), standing, board=board, orders=orders)
        returns(self, 2, force, board=board, orders=orders, place=15)

    def test_pairs_that_push_at_backs(self):
        # Each go of a pair of b comes at a piece of a that backs a go to where it came from; each one is pushed out.
        board = (FULL, tuple(sorted([(field, 0) for field in range(8)] + [(field, 1) for field in range(8, 16)])))
        orders = []
        for field in range(0, 8, 2):
            orders += [("go", field + 8), ("back", field, field + 8)]
        for field in range(8, 16, 2):
            orders += [("go", field - 7), ("back", field, field - 7)]
        returns(self, (9, 11, 13, 15), standing, board=board, orders=tuple(orders))

    def test_nothing_returned_can_change(self):
        self.assertTrue(is_plain(standing(THREE, (("go", 1), ("stay",), ("back", 0, 1)))))


if __name__ == "__main__":
    unittest.main()
