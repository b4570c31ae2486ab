"""The plain rules [C1], [C2], [C3], [C4]."""
import unittest

from tests.plain import (FOUR, FULL, LINE, THREE, WHEEL, Rules, drawn_boards, errors_of_settlements, orders_of_all,
                         renamed, settlement_tuples)
from tests.situations import SITUATIONS, board_of
from tests.support import any_values, call_alike, exchanged, is_plain, returns
from whateverothers.boardtexts import read_orders
from whateverothers.rules import fits, settlement_error

PUSH = (("go", 1), ("stay",), ("back", 0, 1))


def keeping(board, orders):
    """The settlements that settlement_error lets by, as strings."""
    return ["".join("-+"[item] for item in value) for value in settlement_tuples(board)
            if settlement_error(board, orders, value) is None]


class Situations(unittest.TestCase):
    def test_settlements_that_keep_the_rules(self):
        for why, chart, pieces_told, orders_told, expected in SITUATIONS:
            with self.subTest(why):
                board = board_of(chart, pieces_told)
                self.assertEqual(expected, keeping(board, read_orders(board, orders_told)))

    def test_players_called_otherwise(self):
        for why, chart, pieces_told, orders_told, expected in SITUATIONS:
            board = board_of(chart, pieces_told)
            for names in ((3, 2, 1, 0, 4, 5), (5, 0, 4, 1, 2, 3)):
                with self.subTest(why, names=names):
                    other = renamed(board, names)
                    self.assertEqual(expected, keeping(other, read_orders(other, orders_told)))


class AgainstThePlainRules(unittest.TestCase):
    def compare(self, board, orders):
        """All tuples of bools; at least one of them has to keep the rules."""
        expected = errors_of_settlements(board, orders)
        told = [settlement_error(board, orders, value) for value in settlement_tuples(board)]
        self.assertEqual(expected, told, (board, orders))
        self.assertIn(None, told, (board, orders))
        return told

    def test_all_orders_of_small_boards(self):
        triangle = ((3, ((0, 1), (0, 2), (1, 2)), ()), ((0, 0), (1, 1), (2, 2)))
        for board in (THREE, (LINE, ((0, 0), (1, 1), (2, 0))), triangle, (WHEEL, ((0, 0), (1, 0))),
                      (WHEEL, ((1, 1), (4, 0)))):
            for orders in orders_of_all(board):
                self.compare(board, orders)

    def test_drawn_boards(self):
        for board, orders in drawn_boards(5, 400):
            self.compare(board, orders)

    def test_drawn_boards_of_two_players(self):
        for board, orders in drawn_boards(6, 250, most_fields=8, most_pieces=7, players=2):
            self.compare(board, orders)

    def test_players_called_otherwise(self):
        for board, orders in drawn_boards(7, 100, most_pieces=5):
            told = self.compare(board, orders)
            for names in ((1, 2, 0), (5, 3, 4)):
                other = renamed(board, names)
                self.assertEqual(told, [settlement_error(other, orders, value) for value in settlement_tuples(other)])

    def test_sixteen_pieces(self):
        board = (FULL, tuple((field, field % 3) for field in range(16)))
        for orders in ((("stay",),) * 16, tuple(("go", (field + 1) % 16) for field in range(16))):
            returns(self, None, settlement_error, board=board, orders=orders, value=(True,) * 16)
        orders = tuple(("go", 20 + field // 4) for field in range(16))
        returns(self, None, settlement_error, board=board, orders=orders, value=(False,) * 16)
        returns(self, ("order", 15), settlement_error, board=board, orders=orders, value=(False,) * 15 + (True,))


class Fits(unittest.TestCase):
    def told(self, expected, board, orders_told, place):
        returns(self, expected, fits, board=board, orders=read_orders(board, orders_told), place=place)

    def test_a_back_in_going(self):
        self.told(True, THREE, "0 go 1; 1 stay; 4 back 0 1", 2)
        self.told(False, THREE, "0 go 3; 1 stay; 4 back 0 1", 2)
        self.told(False, THREE, "0 go 4; 1 stay; 4 back 0 1", 2)
        self.told(False, THREE, "0 stay; 1 stay; 4 back 0 1", 2)
        self.told(False, THREE, "0 back 1 1; 1 stay; 4 back 0 1", 2)
        self.told(False, THREE, "0 back 4 1; 1 stay; 4 back 0 1", 2)

    def test_a_back_in_staying(self):
        self.told(True, THREE, "0 stay; 1 stay; 4 back 0 0", 2)
        self.told(True, THREE, "0 back 1 1; 1 stay; 4 back 0 0", 2)
        self.told(True, THREE, "0 back 4 4; 1 stay; 4 back 0 0", 2)
        self.told(False, THREE, "0 go 1; 1 stay; 4 back 0 0", 2)
        self.told(False, THREE, "0 go 4; 1 stay; 4 back 0 0", 2)

    def test_foreign_pieces_are_backed_as_own_ones(self):
        self.told(True, THREE, "0 back 1 4; 1 go 4; 4 stay", 0)
        self.told(True, THREE, "0 back 1 1; 1 stay; 4 stay", 0)
        self.told(False, THREE, "0 back 1 1; 1 go 2; 4 stay", 0)
        self.told(True, FOUR, "0 stay; 1 back 3 2; 3 go 2; 4 stay", 1)

    def test_gos_to_the_backing_piece_are_of_no_account(self):
        self.told(True, FOUR, "0 go 1; 1 stay; 3 go 4; 4 back 0 1", 3)

    def test_all_orders_of_small_boards(self):
        for board in (THREE, (LINE, ((0, 0), (1, 1), (2, 0)))):
            for orders in orders_of_all(board):
                rules = Rules(board, orders, (True,) * 3)
                for place in (place for place in range(3) if orders[place][0] == "back"):
                    self.assertIs(rules.fits(board[1][place][0]), fits(board, orders, place))


class SettlementErrors(unittest.TestCase):
    def told(self, expected, board, orders, value):
        returns(self, expected, settlement_error, board=board, orders=orders, value=value)

    def test_form(self):
        for value in ([True, True, True], (1, 1, 1), (0, 0, 0), (True, True), (True,) * 4, (), True, None, "+++",
                      (True, 1, True), (True, True, None), (True, True, 0), ("", True, True), ((True,), True, True),
                      (True, [True], True), {0: True, 1: True, 2: True}, (True, True, "True"), ((True, True, True),)):
            self.told("form", THREE, PUSH, value)

    def test_form_without_pieces(self):
        self.told(None, (WHEEL, ()), (), ())
        for value in ([], None, False, "", {}, (True,), 0):
            self.told("form", (WHEEL, ()), (), value)

    def test_values_of_all_kinds(self):
        for value in any_values():
            self.told("form", THREE, PUSH, value)
            if not isinstance(value, bool):
                self.told("form", THREE, PUSH, (True, True, value))
                self.told("form", THREE, PUSH, (value, True, True))
                self.told("form", (WHEEL, ((0, 0),)), (("stay",),), (value,))

    def test_settlements_with_any_part_exchanged(self):
        for value in exchanged((True, True, True), any_values()):
            is_form = isinstance(value, tuple) and len(value) == 3 and all(isinstance(item, bool) for item in value)
            told = settlement_error(THREE, PUSH, value)
            self.assertEqual(told, Rules(THREE, PUSH, value).error() if is_form else "form")

    def test_what_stays_has_true(self):
        self.told(("order", 1), THREE, PUSH, (True, False, True))
        self.told(("order", 0), (WHEEL, ((0, 0),)), (("stay",),), (False,))

    def test_the_least_place_is_told(self):
        self.told(("order", 0), THREE, PUSH, (False, False, True))
        self.told(("order", 0), THREE, (("stay",),) * 3, (False, False, False))
        self.told(("order", 1), THREE, (("stay",),) * 3, (True, False, False))
        self.told(("order", 2), THREE, (("stay",),) * 3, (True, True, False))

    def test_all_others_are_as_the_settlement_has_them(self):
        # With the back said to have fallen the go is not to win, and the wrong back alone is told.
        self.told(("order", 2), THREE, PUSH, (False, True, False))
        # A back that does not fit gives no force, though it is said to stand.
        board, orders = THREE, (("go", 1), ("stay",), ("back", 0, 0))
        self.told(("order", 0), board, orders, (True, True, True))
        self.told(("order", 2), board, orders, (False, True, True))
        # A go said to win lets the back in its field fall, whoever's it is.
        self.told(("order", 1), THREE, (("back", 1, 1), ("stay",), ("go", 0)), (False, False, True))
        self.told(("order", 2), THREE, (("back", 1, 1), ("stay",), ("go", 0)), (False, True, True))
        self.told(None, THREE, (("back", 1, 1), ("stay",), ("go", 0)), (True, True, False))
        # A go said to win leaves, so the one behind it is to win.
        chase = (("go", 1), ("go", 2), ("stay",))
        self.told(("order", 0), THREE, chase, (False, True, True))
        self.told(("order", 1), THREE, chase, (False, False, True))

    def test_nothing_returned_can_change(self):
        self.assertTrue(is_plain(settlement_error(THREE, PUSH, (False, True, True))))

    def test_wrong_values_are_left_as_they_were(self):
        value = [True, [True], {0: True}]
        call_alike(self, settlement_error, board=THREE, orders=PUSH, value=value)
        self.assertEqual([True, [True], {0: True}], value)


if __name__ == "__main__":
    unittest.main()
