"""Boards [B1], [B3]."""
import unittest

from tests.plain import BARE, FOUR, FULL, LINE, STAR, THREE, WHEEL, drawn_boards, error_of_board
from tests.support import any_values, call_alike, exchanged, is_plain, returns
from whateverothers.boards import board_error

SIXTEEN = tuple((field, field % 6) for field in range(16))


def told(case, expected, value):
    returns(case, expected, board_error, value=value)


class BoardErrors(unittest.TestCase):
    def test_boards_have_none(self):
        for board in (THREE, FOUR, (WHEEL, ()), (BARE, ()), ((1, (), ()), ()), ((1, (), ()), ((0, 5),)),
                      (WHEEL, ((4, 0),)), (STAR, tuple((field, 5 - field) for field in range(6)))):
            told(self, None, board)

    def test_sixteen_pieces_on_twenty_four_fields(self):
        for chart in (FULL, BARE):
            told(self, None, (chart, SIXTEEN))
            told(self, None, (chart, tuple((field, 3) for field in range(8, 24))))
            told(self, "pieces", (chart, SIXTEEN + ((16, 0),)))
            told(self, "pieces", (chart, tuple((field, 0) for field in range(24))))

    def test_form(self):
        for value in ((), (WHEEL,), (WHEEL, (), ()), WHEEL, [WHEEL, ()], None, True, 0, "", "5:;", {},
                      {0: WHEEL, 1: ()}):
            told(self, "form", value)

    def test_chart(self):
        for chart, error in ((None, "form"), ([5, (), ()], "form"), ((5, [], ()), "form"), ((0, (), ()), "many"),
                             ((25, (), ()), "many"), ((True, (), ()), "many"), ((3, ((1, 0),), ()), ("road", 0)),
                             ((3, ((0, 1), (0, 1)), ()), ("road", 1)), ((3, (), (3,)), ("centre", 0)),
                             ((3, (), (0, 2, True)), ("centre", 2))):
            told(self, ("chart", error), (chart, ()))

    def test_pieces(self):
        for pieces in ([(0, 0)], [], None, 0, True, "", "0:a", {}, {0: 0}, ((0, 0),) * 17, (None,) * 17):
            told(self, "pieces", (WHEEL, pieces))

    def test_piece(self):
        wrongs = ((5, 0), (-1, 0), (24, 0), (10 ** 399, 0), (0, 6), (0, -1), (0, 10 ** 399), (0,), (), (0, 0, 0),
                  [0, 0], (True, 0), (False, 0), (0, True), (0, False), (None, 0), (0, None), ("0", 0), (0, "a"),
                  ((0, 0), 0), (0, (0,)), 0, None, True, "0:a", {0: 0}, {})
        for wrong in wrongs:
            told(self, ("piece", 0), (WHEEL, (wrong,)))
            told(self, ("piece", 0), (WHEEL, (wrong, (4, 0))))
            told(self, ("piece", 2), (WHEEL, ((0, 0), (1, 0), wrong)))
            told(self, ("piece", 15), (BARE, SIXTEEN[:15] + (wrong,)))

    def test_fields_have_to_ascend(self):
        told(self, ("piece", 1), (WHEEL, ((1, 0), (0, 0))))
        told(self, ("piece", 1), (WHEEL, ((1, 0), (1, 0))))
        told(self, ("piece", 1), (WHEEL, ((1, 0), (1, 1))))
        told(self, ("piece", 1), (WHEEL, ((1, 1), (1, 0))))
        told(self, ("piece", 2), (WHEEL, ((0, 5), (4, 5), (3, 5))))

    def test_the_first_that_applies_is_told(self):
        told(self, "form", ((0, (), ()), None, ()))
        told(self, ("chart", "many"), ((0, (), ()), None))
        told(self, ("chart", ("road", 0)), ((3, ((1, 0),), (9,)), [(9, 9)]))
        told(self, "pieces", (WHEEL, ((9, 9),) * 17))
        told(self, ("piece", 0), (WHEEL, ((9, 9), (0, 0), (0, 0))))
        told(self, ("piece", 1), (WHEEL, ((0, 0), (0, 0), (9, 9))))

    def test_values_of_all_kinds(self):
        for value in any_values():
            told(self, error_of_board(value), value)
            told(self, error_of_board((value, ())), (value, ()))
            told(self, error_of_board((WHEEL, value)), (WHEEL, value))
            told(self, error_of_board((WHEEL, (value,))), (WHEEL, (value,)))

    def test_boards_with_any_part_exchanged(self):
        others = [value for value in any_values() if len(repr(value)) < 500]
        for board in (((3, ((0, 2), (1, 2)), (1,)), ((0, 1), (1, 0), (2, 5))), (LINE, ((3, 2),))):
            for value in exchanged(board, others):
                self.assertEqual(repr(error_of_board(value)), repr(board_error(value)), value)

    def test_drawn_boards_have_none(self):
        for board, _ in drawn_boards(1, 100):
            self.assertIsNone(board_error(board))


class Returned(unittest.TestCase):
    def test_nothing_returned_can_change(self):
        self.assertTrue(is_plain(board_error(((3, ((1, 0),), ()), ()))))
        self.assertTrue(is_plain(board_error((WHEEL, (None,)))))

    def test_wrong_values_are_left_as_they_were(self):
        value = (WHEEL, ((0, [1]), {2: [3]}))
        call_alike(self, board_error, value=value)
        self.assertEqual((WHEEL, ((0, [1]), {2: [3]})), value)


if __name__ == "__main__":
    unittest.main()
