"""Reasons [D4]."""
import unittest

from tests.plain import FULL, LINE, THREE, WHEEL, drawn_boards, orders_of_all, renamed
from tests.plainrounds import Round, drawn_pushes, drawn_rings, fields_renamed
from tests.situations import SITUATIONS, told
from tests.support import is_plain, returns
from whateverothers.reasons import reasons

# What is shown, the chart, pieces, orders, and the reasons with a comma between two.
REASONS = (
    ("nobody", WHEEL, "", "", ""),
    ("stays", WHEEL, "0:a", "0 stay", "stays"),
    ("stays, come at in vain", WHEEL, "0:a 1:b", "0 stay; 1 go 0", "stays, held 0"),
    ("pushed", WHEEL, "0:a 1:b 4:a", "0 go 1; 1 stay; 4 back 0 1", "beats 1, pushed 0, stands"),
    ("pushed by the greater place", WHEEL, "0:a 1:b 4:a", "0 back 4 1; 1 stay; 4 go 1", "stands, pushed 2, beats 1"),
    ("unfit", WHEEL, "0:a 4:a", "0 stay; 4 back 0 1", "stays, unfit"),
    ("unfit ahead of cut", WHEEL, "0:a 3:b 4:a", "0 stay; 3 go 4; 4 back 0 1", "stays, held 2, unfit"),
    ("unfit ahead of lost", WHEEL, "0:a 1:b 2:b 4:a", "0 stay; 1 go 4; 2 back 1 4; 4 back 0 1",
     "stays, beats 3, stands, unfit"),
    ("cut", WHEEL, "0:a 1:b 3:b 4:a", "0 go 1; 1 stay; 3 go 4; 4 back 0 1", "held 1, stays, held 3, cut 2"),
    ("cut by two, the least place", FULL, "0:a 1:b 2:c 3:b 4:a", "0 go 1; 1 stay; 2 go 4; 3 go 4; 4 back 0 1",
     "held 1, stays, held 4, held 4, cut 2"),
    ("cut, not by the one of the least place in the field aimed at", FULL, "0:b 3:c 4:a 5:a",
     "0 go 4; 3 go 4; 4 back 5 0; 5 go 0", "held 2, held 2, cut 1, held 0"),
    ("cut, not by an own one of the least place", FULL, "0:a 3:c 4:a 5:a 6:b",
     "0 go 4; 3 go 4; 4 back 5 6; 5 go 6; 6 stay", "own 2, held 2, cut 1, held 4, stays"),
    ("cut ahead of lost, though another one pushes out", FULL, "0:a 1:b 2:b 3:c 4:a",
     "0 go 1; 1 go 4; 2 back 1 4; 3 go 4; 4 back 0 1", "follows 1, beats 4, stands, held 4, cut 3"),
    ("lost", WHEEL, "0:a 1:b 2:b 4:a", "0 go 1; 1 go 4; 2 back 1 4; 4 back 0 1", "follows 1, beats 3, stands, lost 1"),
    ("stands", WHEEL, "0:a 1:b 4:a", "0 go 1; 1 go 4; 4 back 0 1", "beats 1, held 2, stands"),
    ("stands, come at by an own one", WHEEL, "0:a 3:a 4:a", "0 go 1; 3 go 4; 4 back 0 1", "free, own 2, stands"),
    ("free", WHEEL, "0:a", "0 go 1", "free"),
    ("free, with a weaker rival", WHEEL, "0:a 2:b 4:a", "0 go 1; 2 go 1; 4 back 0 1", "free, rival 0, stands"),
    ("follows", WHEEL, "0:a 1:b", "0 go 1; 1 go 2", "follows 1, free"),
    ("follows though it would win anyhow", FULL, "0:a 1:b 2:a", "0 go 1; 1 go 3; 2 back 0 1", "follows 1, free, stands"),
    ("follows round", WHEEL, "0:a 1:b 4:a", "0 go 1; 1 go 4; 4 go 0", "follows 1, follows 2, follows 0"),
    ("beats one that stays", WHEEL, "0:a 1:b 4:c", "0 go 1; 1 stay; 4 back 0 1", "beats 1, pushed 0, stands"),
    ("beats one that backs", FULL, "0:a 1:b 2:b 4:a", "0 go 1; 1 back 2 3; 2 go 3; 4 back 0 1",
     "beats 1, cut 0, free, stands"),
    ("beats one that comes against it", WHEEL, "0:a 1:b 4:a", "0 go 1; 1 go 0; 4 back 0 1", "beats 1, met 0, stands"),
    ("beats one that is held up", FULL, "0:a 1:b 2:c 3:a", "0 go 1; 1 go 2; 2 stay; 3 back 0 1",
     "beats 1, held 2, stays, stands"),
    ("own, it stays", WHEEL, "0:a 1:a", "0 go 1; 1 stay", "own 1, stays"),
    ("own, whatever backs it", WHEEL, "0:a 1:a 4:b", "0 go 1; 1 stay; 4 back 0 1", "own 1, stays, stands"),
    ("own, it comes against", WHEEL, "0:a 1:a", "0 go 1; 1 go 0", "own 1, own 0"),
    ("own, it is held up", WHEEL, "0:a 1:a 2:b", "0 go 1; 1 go 2; 2 stay", "own 1, held 2, stays"),
    ("own ahead of held and of rival", FULL, "0:a 1:a 2:b 3:b 4:b", "0 go 1; 1 stay; 2 go 1; 3 back 2 1; 4 back 1 1",
     "own 1, stays, held 1, stands, stands"),
    ("met", WHEEL, "0:a 1:b", "0 go 1; 1 go 0", "met 1, met 0"),
    ("met, with a back each", FULL, "0:a 1:b 2:a 3:b", "0 go 1; 1 go 0; 2 back 0 1; 3 back 1 0",
     "met 1, met 0, stands, stands"),
    ("met ahead of rival", FULL, "0:a 1:b 2:c", "0 go 1; 1 go 0; 2 go 1", "met 1, met 0, held 1"),
    ("met, as own backs do not count", FULL, "0:a 1:b 2:b", "0 go 1; 1 go 0; 2 back 0 1", "met 1, met 0, stands"),
    ("stronger than who comes against it, but for a rival", FULL, "0:a 1:b 2:c 3:a 4:c",
     "0 go 1; 1 go 0; 2 go 1; 3 back 0 1; 4 back 2 1", "rival 2, met 0, rival 0, stands, stands"),
    ("held by one that stays", WHEEL, "0:a 1:b", "0 go 1; 1 stay", "held 1, stays"),
    ("held by one that backs", FULL, "0:a 1:b 2:b", "0 go 1; 1 back 2 3; 2 go 3", "held 1, cut 0, free"),
    ("held by backs", FULL, "0:a 1:b 2:a 3:b", "0 go 1; 1 stay; 2 back 0 1; 3 back 1 1",
     "held 1, stays, stands, stands"),
    ("held by one that is held up", WHEEL, "0:a 1:b 2:c", "0 go 1; 1 go 2; 2 stay", "held 1, held 2, stays"),
    ("held, as own backs do not count", WHEEL, "0:a 1:b 4:b", "0 go 1; 1 stay; 4 back 0 1", "held 1, stays, stands"),
    ("held ahead of rival", FULL, "0:a 1:b 2:c 3:c", "0 go 1; 1 stay; 2 go 1; 3 back 2 1",
     "held 1, pushed 2, beats 1, stands"),
    ("rival", WHEEL, "0:a 2:b", "0 go 1; 2 go 1", "rival 1, rival 0"),
    ("rival, an own one", WHEEL, "0:a 2:a", "0 go 1; 2 go 1", "rival 1, rival 0"),
    ("rivals, the least place", FULL, "0:a 1:b 2:c 3:d", "0 go 9; 1 go 9; 2 go 9; 3 go 9",
     "rival 1, rival 0, rival 0, rival 0"),
    ("rivals, the least place that is strong enough", FULL, "0:a 1:b 2:c 3:d 4:b 5:d",
     "0 go 9; 1 go 9; 2 go 9; 3 go 9; 4 back 1 9; 5 back 3 9", "rival 1, rival 3, rival 0, rival 1, stands, stands"),
    ("rival, who is pushed out meanwhile", FULL, "0:a 1:a 2:b 4:c", "0 go 2; 1 back 0 2; 2 go 3; 4 go 3",
     "beats 2, stands, rival 3, rival 2"),
    ("rival, where who was there leaves", FULL, "0:a 1:b 2:c", "0 go 1; 1 go 3; 2 go 1", "rival 2, free, rival 0"),
    ("no rival, as it is repelled", FULL, "0:a 1:b 2:a 4:b", "0 go 1; 1 go 2; 2 go 1; 4 back 1 2",
     "follows 1, beats 2, met 1, stands"),
    ("another rival than the one that is repelled", FULL, "0:a 1:b 2:a 3:c 4:b",
     "0 go 1; 1 go 2; 2 go 1; 3 go 1; 4 back 1 2", "rival 3, beats 2, met 1, rival 0, stands"),
    ("the least rival is the one repelled, so another one", FULL, "0:b 1:a 2:c 3:a 4:a",
     "0 go 1; 1 go 0; 2 go 1; 3 go 1; 4 back 1 0", "met 1, beats 0, rival 3, rival 2, stands"),
    ("rival, who is not repelled", FULL, "0:a 1:b 2:c 3:a", "0 go 1; 1 go 2; 2 go 1; 3 back 0 1",
     "beats 1, met 2, met 1, stands"),
    ("a ring with a rival", WHEEL, "0:a 1:b 3:b 4:a", "0 go 1; 1 go 4; 3 go 4; 4 go 0",
     "held 1, held 3, held 3, own 0"),
    ("an own ring with a rival", WHEEL, "0:a 1:a 3:a 4:a", "0 go 1; 1 go 4; 3 go 4; 4 go 0",
     "own 1, own 3, own 3, own 0"),
)


def reasons_told(text):
    parts = [part.split(" ") for part in text.split(", ")] if text else []
    return tuple((word, *[int(place) for place in places]) for word, *places in parts)


class Told(unittest.TestCase):
    def test_reasons(self):
        for why, chart, pieces_told, orders_told, expected in REASONS:
            with self.subTest(why):
                board, orders = told(chart, pieces_told, orders_told)
                returns(self, reasons_told(expected), reasons, board=board, orders=orders)

    def test_all_words_are_shown(self):
        words = {item[0] for *_, expected in REASONS for item in reasons_told(expected)}
        self.assertEqual(set("pushed stays unfit cut lost stands free follows beats own met held rival".split()), words)

    def test_players_called_otherwise(self):
        for why, chart, pieces_told, orders_told, expected in REASONS:
            board, orders = told(chart, pieces_told, orders_told)
            with self.subTest(why):
                self.assertEqual(reasons_told(expected), reasons(renamed(board, (5, 3, 4, 0)), orders))

    def test_sixteen_that_go_round_or_in_a_line(self):
        board = (FULL, tuple((field, field % 3) for field in range(16)))
        orders = tuple(("go", (field + 1) % 16) for field in range(16))
        returns(self, tuple(("follows", (place + 1) % 16) for place in range(16)), reasons, board=board, orders=orders)
        expected = (*[("held", place + 1) for place in range(15)], ("stays",))
        returns(self, expected, reasons, board=board, orders=(*orders[:15], ("stay",)))
        expected = (*[("follows", place + 1) for place in range(15)], ("free",))
        returns(self, expected, reasons, board=board, orders=(*orders[:15], ("go", 20)))

    def test_nothing_returned_can_change(self):
        self.assertTrue(is_plain(reasons(THREE, (("go", 1), ("stay",), ("back", 0, 1)))))


class AgainstThePlainOnes(unittest.TestCase):
    def compare(self, board, orders):
        self.assertEqual(Round(board, orders).reasons(), reasons(board, orders), (board, orders))

    def test_situations(self):
        for _, chart, pieces_told, orders_told, _ in SITUATIONS:
            self.compare(*told(chart, pieces_told, orders_told))

    def test_all_orders_of_small_boards(self):
        for board in (THREE, (LINE, ((0, 0), (1, 1), (2, 0))), ((3, ((0, 1), (0, 2), (1, 2)), ()), ((0, 0), (1, 1), (2, 2)))):
            for orders in orders_of_all(board):
                self.compare(board, orders)

    def test_drawn_boards(self):
        for board, orders in drawn_boards(31, 400):
            self.compare(board, orders)

    def test_drawn_boards_of_two_players(self):
        for board, orders in drawn_boards(32, 250, most_fields=8, most_pieces=7, players=2):
            self.compare(board, orders)

    def test_drawn_pushes(self):
        for board, orders in [*drawn_pushes(35, 150), *drawn_pushes(135, 100, players=2)]:
            self.compare(board, orders)

    def test_drawn_rings(self):
        for board, orders in drawn_rings(33, 250):
            self.compare(board, orders)

    def test_fields_called_otherwise(self):
        # Where a least place is asked for it may be another one; so the fields are called so that it stays.
        for board, orders in drawn_boards(34, 60):
            names = [2 * field for field in range(board[0][0])]
            wide = ((2 * board[0][0], *board[0][1:]), board[1])
            other, other_orders, places = fields_renamed(wide, orders, names)
            self.assertEqual(list(range(len(orders))), places)
            self.assertEqual(reasons(board, orders), reasons(other, other_orders))


if __name__ == "__main__":
    unittest.main()
