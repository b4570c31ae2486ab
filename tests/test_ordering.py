"""Orders [B2], [B3], [B5]."""
import itertools
import unittest

from tests.plain import (BARE, FOUR, FULL, LINE, STAR, THREE, WHEEL, all_orders, drawn_boards, error_of_orders,
                         is_order_of, renamed, tried_orders)
from tests.support import any_values, exchanged, is_plain, returns
from whateverothers.ordering import orders_error, orders_of

STAYS = (("stay",),)
SIXTEEN = (FULL, tuple((field, field % 6) for field in range(4, 20)))
BOARDS = (THREE, FOUR, (WHEEL, tuple((field, 0) for field in range(5))), (LINE, ((0, 0), (1, 1), (3, 1))),
          (LINE, ((1, 2), (2, 3))), (STAR, ((0, 0), (2, 1), (5, 1))), (BARE, ((3, 0), (23, 1))), ((1, (), ()), ((0, 0),)))


def told(case, expected, board, value):
    returns(case, expected, orders_error, board=board, value=value)


def order_told(case, expected, board, place, order):
    """What is told if this piece has this order and all others stay."""
    many = len(board[1])
    value = STAYS * place + (order,) + STAYS * (many - place - 1)
    told(case, None if expected else ("order", place), board, value)


class OrdersErrors(unittest.TestCase):
    def test_orders_have_none(self):
        for board in (*BOARDS, SIXTEEN):
            told(self, None, board, STAYS * len(board[1]))
        told(self, None, (WHEEL, ()), ())
        told(self, None, FOUR, (("go", 3), ("back", 4, 2), ("back", 4, 4), ("back", 3, 0)))

    def test_form(self):
        for value in ((), STAYS, STAYS * 2, STAYS * 4, list(STAYS * 3), None, True, 3, "", "stay", {}, ("stay",) * 4,
                      {0: ("stay",), 1: ("stay",), 2: ("stay",)}):
            told(self, "form", THREE, value)
        for value in (STAYS, [], None, "", {}, 0, False):
            told(self, "form", (WHEEL, ()), value)

    def test_stay(self):
        for wrong in ("stay", ["stay"], (), ("stay", 0), ("stay", ()), (("stay",),), ("Stay",), ("stay ",), ("",),
                      ("stays",), (None,), (0,), {"stay": 0}, {}, None, True, 0):
            order_told(self, False, THREE, 1, wrong)

    def test_go(self):
        for goal in (0, 2, 4):
            order_told(self, True, THREE, 1, ("go", goal))
        # 1 is the own field, 3 is not near it, the others are none.
        for goal in (1, 3, 5, -1, 24, 10 ** 399, True, False, None, "0", "", (0,), [0], {}, ()):
            order_told(self, False, THREE, 1, ("go", goal))
        for wrong in (("go",), ("go", 0, 0), ["go", 0], ("Go", 0), ("stay", 0), ("back", 0), ("went", 0), ("", 0),
                      (0, 0), (0, "go"), (("go", 0),), ("go", 0, None), {"go": 0}, "go 0"):
            order_told(self, False, THREE, 1, wrong)
        order_told(self, False, THREE, 0, ("go", True))
        order_told(self, False, THREE, 2, ("go", False))

    def test_back(self):
        # The piece in 1 may back those in 0 and 4, which are near each other; 2 is near 1 and 4, but not 0.
        for backed, aim in ((0, 0), (4, 4), (0, 4), (4, 0), (4, 2)):
            order_told(self, True, THREE, 1, ("back", backed, aim))
        wrongs = {"the own field": (1, 1), "the own piece going": (1, 0), "the own field as aim": (0, 1),
                  "the own field as aim again": (4, 1), "a free field": (2, 2), "a free field going": (2, 4),
                  "far from the backed": (0, 2), "far from the backing": (0, 3), "far from it, too": (4, 3),
                  "a far free field": (3, 3), "no field": (5, 5), "no aim": (0, 5), "below": (-1, -1),
                  "aim below": (0, -1), "a bool": (False, 4), "a bool as aim": (0, False), "bools": (False, False),
                  "none": (None, None), "no aim at all": (0, None), "strings": ("0", "0"), "a list": ([0], 0)}
        for why, (backed, aim) in wrongs.items():
            with self.subTest(why):
                order_told(self, False, THREE, 1, ("back", backed, aim))

    def test_back_of_a_far_piece(self):
        board = (LINE, ((0, 0), (1, 0), (2, 1), (3, 0)))
        # It can be backed in going to a field near both, though it is far itself.
        order_told(self, True, board, 0, ("back", 2, 1))
        order_told(self, False, board, 0, ("back", 2, 2))
        order_told(self, False, board, 0, ("back", 2, 3))
        order_told(self, False, board, 0, ("back", 3, 2))
        order_told(self, False, board, 0, ("back", 3, 1))
        order_told(self, True, board, 1, ("back", 3, 2))
        order_told(self, False, board, 1, ("back", 3, 0))

    def test_back_of_other_lengths_and_words(self):
        for wrong in (("back",), ("back", 0), ("back", 0, 0, 0), ["back", 0, 0], ("go", 0, 0), ("stay", 0, 0),
                      ("Back", 0, 0), ("", 0, 0), (0, 0, 0), (0, "back", 0), ("back", (0, 0)), "back 0 0"):
            order_told(self, False, THREE, 1, wrong)

    def test_the_first_that_is_no_order_is_told(self):
        told(self, ("order", 0), THREE, (None, None, None))
        told(self, ("order", 1), THREE, (("stay",), ("go", 3), ("go", 4)))
        told(self, ("order", 2), THREE, (("go", 1), ("go", 0), ["stay"]))
        told(self, ("order", 15), SIXTEEN, STAYS * 15 + (("go", 19),))
        # Each order is looked at by the piece whose it is.
        told(self, ("order", 0), THREE, (("go", 2), ("go", 0), ("go", 3)))

    def test_values_of_all_kinds(self):
        for value in any_values():
            told(self, error_of_orders(THREE, value), THREE, value)
            told(self, error_of_orders((WHEEL, ()), value), (WHEEL, ()), value)
            for place in range(3):
                order_told(self, is_order_of(THREE, place, value), THREE, place, value)

    def test_orders_with_any_part_exchanged(self):
        others = [value for value in any_values() if len(repr(value)) < 500]
        for board, orders in ((THREE, (("go", 1), ("stay",), ("back", 0, 1))),
                              (FOUR, (("back", 1, 4), ("back", 0, 0), ("go", 4), ("back", 0, 1)))):
            for value in exchanged(orders, others):
                self.assertEqual(repr(error_of_orders(board, value)), repr(orders_error(board, value)), value)

    def test_players_are_of_no_account(self):
        for names in ((0, 0), (1, 0), (5, 2)):
            board = renamed(THREE, names)
            for order in tried_orders(WHEEL):
                order_told(self, is_order_of(THREE, 0, order), board, 0, order)


class OrdersOf(unittest.TestCase):
    def test_a_lone_piece(self):
        returns(self, (("stay",),), orders_of, board=((1, (), ()), ((0, 0),)), place=0)
        returns(self, (("stay",),), orders_of, board=(BARE, ((3, 0), (23, 1))), place=1)
        returns(self, (("stay",), ("go", 0), ("go", 2)), orders_of, board=(LINE, ((1, 4),)), place=0)

    def test_a_row(self):
        board = (LINE, ((0, 0), (1, 1), (3, 1)))
        returns(self, (("stay",), ("go", 0), ("go", 2), ("back", 0, 0), ("back", 3, 2)),
                orders_of, board=board, place=1)

    def test_just_those_that_orders_error_lets_by(self):
        for board in (*BOARDS, *[board for board, _ in drawn_boards(2, 40)]):
            for place in range(len(board[1])):
                self.compare(board, place)

    def compare(self, board, place):
        many = len(board[1])
        let_by = [order for order in tried_orders(board[0])
                  if orders_error(board, STAYS * place + (order,) + STAYS * (many - place - 1)) is None]
        told_of = orders_of(board, place)
        self.assertEqual(repr(all_orders(board, place)), repr(told_of))
        self.assertEqual(let_by, list(told_of))
        self.assertEqual(len(told_of), len(set(told_of)))

    def test_the_stay_the_gos_the_backs(self):
        for board in (*BOARDS, SIXTEEN):
            for place in range(len(board[1])):
                told_of = orders_of(board, place)
                words = [word for word, _ in itertools.groupby(order[0] for order in told_of)]
                self.assertEqual(words, [word for word in ("stay", "go", "back") if word in words])
                self.assertEqual(("stay",), told_of[0])
                for word in ("go", "back"):
                    rows = [order for order in told_of if order[0] == word]
                    self.assertEqual(sorted(rows), rows)

    def test_the_most_there_are(self):
        # 23 gos; of each of 15 others the backs at all fields but the own one.
        returns(self, 1 + 23 + 15 * 23, lambda board, place: len(orders_of(board, place)), board=SIXTEEN, place=7)

    def test_players_are_of_no_account(self):
        for board in BOARDS:
            other = renamed(board, (5, 4, 3, 2, 1, 0))
            same = renamed(board, (1, 1, 1, 1, 1, 1))
            for place in range(len(board[1])):
                self.assertEqual(orders_of(board, place), orders_of(other, place))
                self.assertEqual(orders_of(board, place), orders_of(same, place))

    def test_nothing_returned_can_change(self):
        self.assertTrue(is_plain(orders_of(FOUR, 2)))
        self.assertTrue(is_plain(orders_error(FOUR, (None,) * 4)))


if __name__ == "__main__":
    unittest.main()
