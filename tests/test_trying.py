"""Tuples of orders that are tried."""
import itertools
import unittest

from tests.plain import FOUR, LINE, THREE, Rules, all_orders
from tests.plainsure import drawn_own, error_of_sound
from whateverothers.errors import TooMany
from whateverothers.grounds import Ground
from whateverothers.trying import all_tuples, check_tried, own_tuples


class Tuples(unittest.TestCase):
    def test_too_many(self):
        for choices in ([], [()], [range(20000)], [range(100), range(200)], [range(2)] * 14, [range(10 ** 6), ()]):
            self.assertIsNone(check_tried(choices))
        for choices in ([range(20001)], [range(3), range(6667)], [range(2)] * 15):
            with self.assertRaises(TooMany) as caught:
                check_tried(choices)
            self.assertEqual(20000, caught.exception.limit)

    def test_all_tuples(self):
        for choices in ([], [(1, 0)], [(1, 0), (), (2,)], [("b", "a"), (3,), (2, 1, 0)]):
            self.assertEqual(list(itertools.product(*choices)), all_tuples(choices))

    def test_own_tuples(self):
        boards = [(THREE, 0), (THREE, 1), (FOUR, 0), (FOUR, 5), ((LINE, ((0, 0), (1, 0), (2, 0))), 0), ((LINE, ()), 2)]
        boards += [(board, player) for board, player, _ in drawn_own(171, 40, most_fields=6, most_pieces=5, players=2)]
        for board, player in boards:
            choices = [all_orders(board, place) if owner == player else (None,) for place,
                       (_, owner) in enumerate(board[1])]
            if len(list(itertools.islice(itertools.product(*choices), 5001))) <= 5000:
                expected = [own for own in itertools.product(*choices) if self.is_right(board, player, own)]
                self.assertEqual(expected, own_tuples(Ground(board), choices))

    def is_right(self, board, player, own):
        orders = [item or ("stay",) for item in own]
        rules = Rules(board, orders, [True] * len(orders))
        fitting = all(rules.fits(field) for (field, _), order in zip(board[1], orders) if order[0] == "back")
        return fitting and error_of_sound(board, player, own) is None


if __name__ == "__main__":
    unittest.main()
