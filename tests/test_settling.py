"""Rings, loose rings and settlements [D3], [D5], [D6]."""
import itertools
import time
import unittest

from tests.plain import FULL, LINE, THREE, WHEEL, drawn_boards, orders_of_all, renamed, settlement_tuples
from tests.plainrounds import Round, drawn_pushes, drawn_rings, fields_renamed
from tests.situations import SITUATIONS, told
from tests.support import is_plain, returns
from whateverothers.rules import settlement_error
from whateverothers.settling import loose_rings, settled, settlements

TRIANGLE = ((3, ((0, 1), (0, 2), (1, 2)), ()), ((0, 0), (1, 1), (2, 0)))
SQUARE = (4, ((0, 1), (0, 3), (1, 2), (2, 3)), ())


def board_with(players):
    """A board of fields that are all near each other, with pieces in the first ones."""
    return (FULL, tuple(enumerate(players)))


def round_about(many, step=1):
    return tuple(("go", (field + step) % many) for field in range(many))


def kept_by(board, orders):
    return tuple(value for value in settlement_tuples(board) if settlement_error(board, orders, value) is None)


class Told(unittest.TestCase):
    def told(self, rings, kept, board, orders):
        """kept is told by strings with "+" for True, in any order."""
        expected = tuple(sorted(tuple(sign == "+" for sign in signs) for signs in kept))
        returns(self, rings, loose_rings, board=board, orders=orders)
        returns(self, expected, settlements, board=board, orders=orders)
        most = tuple(any(items) for items in zip(*expected))
        self.assertIn(most, expected)
        returns(self, most, settled, board=board, orders=orders)
        for value in expected:
            self.assertIsNone(settlement_error(board, orders, value))


class Situations(Told):
    def test_situations(self):
        for why, chart, pieces_told, orders_told, expected in SITUATIONS:
            with self.subTest(why):
                board, orders = told(chart, pieces_told, orders_told)
                self.told(Round(board, orders).loose_rings(), expected, board, orders)

    def test_no_pieces(self):
        self.told((), [""], (WHEEL, ()), ())
        self.assertEqual(((),), settlements((WHEEL, ()), ()))


class Rings(Told):
    def test_of_three_to_sixteen(self):
        for many in range(3, 17):
            for players in ([0] * many, [place % 2 for place in range(many)], [place % 6 for place in range(many)],
                            [0] + [5] * (many - 1)):
                with self.subTest(many=many, players=players):
                    both = ["+" * many, "-" * many]
                    self.told((tuple(range(many)),), both, board_with(players), round_about(many))
                    backward = (0, *range(many - 1, 0, -1))
                    self.told((backward,), both, board_with(players), round_about(many, -1))

    def test_with_the_least_place_first(self):
        orders = (("go", 2), ("go", 3), ("go", 1), ("go", 0))
        self.told(((0, 2, 1, 3),), ["++++", "----"], board_with((0, 1, 2, 3)), orders)
        board = (FULL, ((3, 0), (5, 1), (9, 2), (20, 0)))
        self.told(((1, 3, 2),), ["++++", "+---"], board, (("stay",), ("go", 20), ("go", 5), ("go", 9)))

    def test_of_two_there_are_none(self):
        self.told((), ["--"], (WHEEL, ((0, 0), (1, 1))), (("go", 1), ("go", 0)))
        self.told((), ["--"], (WHEEL, ((0, 0), (1, 0))), (("go", 1), ("go", 0)))
        self.told((), ["---+"], board_with((0, 1, 0, 2)), (("go", 1), ("go", 0), ("go", 0), ("stay",)))

    def test_with_one_that_comes_from_outside(self):
        for many in range(3, 9):
            for player in (0, 1, 5):
                board = board_with([place % 3 for place in range(many)] + [player])
                self.told((), ["-" * many + "-"], board, (*round_about(many), ("go", 1)))

    def test_with_one_from_outside_that_is_backed(self):
        # The piece in 1 cannot leave against a rival; what comes in from outside pushes it out.
        board = board_with((0, 1, 2, 3, 3))
        self.told((), ["---++"], board, (*round_about(3), ("go", 1), ("back", 3, 1)))
        # It is an own one of the piece that it would push out.
        board = board_with((0, 3, 2, 3, 3))
        self.told((), ["----+"], board, (*round_about(3), ("go", 1), ("back", 3, 1)))

    def test_with_a_back_of_a_member(self):
        # With a foreign back the go wins always, and with it all the others.
        self.told((), ["++++"], board_with((0, 1, 2, 0)), (*round_about(3), ("back", 0, 1)))
        self.told((), ["++++"], board_with((0, 1, 2, 5)), (*round_about(3), ("back", 1, 2)))
        # A back by the player of the piece in the way, or of a go to an own one, does not let it win alone.
        self.told(((0, 1, 2),), ["++++", "---+"], board_with((0, 1, 2, 1)), (*round_about(3), ("back", 0, 1)))
        self.told(((0, 1, 2),), ["++++", "---+"], board_with((0, 0, 2, 3)), (*round_about(3), ("back", 0, 1)))

    def test_with_a_back_of_a_member_and_one_from_outside(self):
        orders = (*round_about(3), ("back", 0, 1), ("go", 1))
        self.told((), ["++++-"], board_with((0, 1, 2, 0, 4)), orders)
        # Here the ring is loose, and what comes from outside is barred whether it goes or not.
        self.told(((0, 1, 2),), ["++++-", "---+-"], board_with((0, 1, 2, 1, 4)), orders)
        self.told(((0, 1, 2),), ["++++-", "---+-"], board_with((0, 0, 2, 3, 4)), orders)

    def test_with_a_member_that_is_pushed_at(self):
        # A go with more force than that of the ring wins; the pushed piece and those ahead of it stay.
        orders = (*round_about(4), ("go", 2), ("back", 4, 2), ("back", 1, 2), ("back", 4, 2))
        self.told((), ["----++++"], board_with((0, 1, 2, 3, 4, 4, 1, 4)), orders)
        self.told((), ["++++-+++"], board_with((0, 1, 2, 3, 4, 4, 1, 1)), (*orders[:7], ("back", 1, 2)))

    def test_with_a_held_up_member(self):
        orders = (("go", 1), ("go", 2), ("go", 3), ("go", 0), ("go", 3))
        self.told((), ["-----"], board_with((0, 1, 0, 1, 0)), orders)

    def test_with_a_repelled_one(self):
        # 1 goes to 2 in any case and repels the piece there, which goes to 1 as the one in 0 does.
        orders = (("go", 1), ("go", 2), ("go", 1), ("back", 1, 2))
        self.told((), ["++-+"], board_with((0, 1, 2, 1)), orders)

    def test_lines_that_lead_into_a_ring(self):
        for many in range(4, 17):
            orders = (*round_about(3), ("go", 0), *[("go", place - 1) for place in range(4, many)])
            board = board_with([place % 3 for place in range(many)])
            self.told((), ["-" * many], board, orders)
        # With a back the ring goes all the same, and the line does not.
        orders = (*round_about(3), ("back", 2, 0), ("go", 0), *[("go", place - 1) for place in range(5, 16)])
        self.told((), ["++++" + "-" * 12], board_with([place % 4 for place in range(16)]), orders)
        # With one by the player of the piece in the way it may go.
        both = ["++++" + "-" * 12, "---+" + "-" * 12]
        self.told(((0, 1, 2),), both, board_with([place % 3 for place in range(16)]), orders)

    def test_who_goes_behind_a_ring(self):
        # Into the field of one that goes round nobody else comes, but where none of the ring goes to.
        self.told(((0, 1, 2),), ["++++", "---+"], board_with((0, 1, 2, 3)), (*round_about(3), ("go", 4)))

    def test_two_rings_that_cross(self):
        chart, fields = (24, ((0, 1), (0, 2), (1, 2), (1, 4), (2, 3), (3, 4)), ()), (0, 1, 2, 3, 4)
        board = (chart, tuple((field, field) for field in fields))
        orders = (("go", 1), ("go", 2), ("go", 3), ("go", 4), ("go", 1))
        self.told((), ["-----"], board, orders)


class SeveralRings(Told):
    def rings_told(self, sizes, players, more_players=(), more_orders=()):
        orders, rings, first = [], [], 0
        for size in sizes:
            orders += [("go", first + (place + 1) % size) for place in range(size)]
            rings.append(tuple(range(first, first + size)))
            first += size
        more_kept = "+" * len(more_players)
        kept = ["".join(sign * size for sign, size in zip(signs, sizes)) + more_kept
                for signs in itertools.product("-+", repeat=len(sizes))]
        board = board_with([players[place % len(players)] for place in range(first)] + list(more_players))
        self.told(tuple(rings), kept, board, (*orders, *more_orders))
        self.assertEqual(2 ** len(sizes), len(settlements(board, (*orders, *more_orders))))

    def test_side_by_side(self):
        for sizes in ((3, 3), (3, 4), (4, 3), (8, 8), (3, 3, 3), (3, 5, 3, 5), (4, 4, 4, 4), (3, 3, 3, 3, 3)):
            for players in ((0,), (0, 1), (0, 1, 2), (5, 4, 3, 2, 1, 0)):
                self.rings_told(sizes, players)

    def test_five_and_one_more_piece(self):
        self.rings_told((3, 3, 3, 3, 3), (0, 1), (2,), (("stay",),))
        self.rings_told((3, 3, 3, 3, 3), (0, 1), (2,), (("go", 23),))
        self.rings_told((3, 3, 3, 3, 3), (0, 1), (1,), (("back", 0, 1),))

    def test_no_other_tuple_keeps_the_rules(self):
        orders = tuple(("go", field - field % 3 + (field + 1) % 3) for field in range(15))
        board = board_with([place % 2 for place in range(15)])
        self.assertEqual(32, len(settlements(board, orders)))
        self.assertEqual(kept_by(board, orders), settlements(board, orders))

    def test_one_that_goes_beside_one_that_is_barred(self):
        board = (FULL, tuple((field, field % 2) for field in range(7)))
        orders = (("go", 1), ("go", 2), ("go", 0), ("go", 4), ("go", 5), ("go", 3), ("go", 3))
        self.told(((0, 1, 2),), ["+++----", "-------"], board, orders)

    def test_mixed_places(self):
        board = (FULL, tuple((field, 0) for field in range(6)))
        orders = (("go", 2), ("go", 3), ("go", 4), ("go", 5), ("go", 0), ("go", 1))
        self.told(((0, 2, 4), (1, 3, 5)), ["++++++", "+-+-+-", "-+-+-+", "------"], board, orders)


class Lines(Told):
    def line_told(self, kept, many, last_order, more_players=(), more_orders=()):
        board = board_with([place % 3 for place in range(many)] + list(more_players))
        orders = (*[("go", place + 1) for place in range(many - 1)], last_order, *more_orders)
        self.told((), [kept], board, orders)

    def test_whose_end_is_free(self):
        for many in range(1, 17):
            self.line_told("+" * many, many, ("go", many))
            self.line_told("+" * many, many, ("go", 23))

    def test_whose_end_is_held(self):
        for many in range(2, 17):
            self.line_told("-" * (many - 1) + "+", many, ("stay",))

    def test_whose_end_backs(self):
        for many in range(3, 17):
            self.line_told("-" * many, many, ("back", 0, 1) if many > 3 else ("back", 1, 1))

    def test_whose_end_is_met(self):
        for many in range(2, 17):
            self.line_told("-" * many, many, ("go", many - 2))

    def test_whose_end_is_fought_over(self):
        for many in range(1, 16):
            self.line_told("-" * many + "-", many, ("go", 23), (4,), (("go", 23),))

    def test_whose_end_is_backed(self):
        # The last one pushes out who stays; all behind it follow.
        for many in range(1, 15):
            self.line_told("+" * many + "++", many, ("go", many), (4, 5), (("stay",), ("back", many - 1, many)))

    def test_whose_first_one_is_backed(self):
        # The first one pushes out the second one, which is held up.
        board = board_with([place % 3 for place in range(15)] + [4])
        orders = (*[("go", place + 1) for place in range(14)], ("stay",), ("back", 0, 1))
        self.told((), ["+" + "-" * 13 + "++"], board, orders)

    def test_closed_to_a_ring(self):
        for many in range(3, 17):
            board = board_with([place % 3 for place in range(many)])
            self.told((tuple(range(many)),), ["+" * many, "-" * many], board, round_about(many))

    def test_of_own_pieces(self):
        board = board_with([2] * 16)
        go_on = tuple(("go", place + 1) for place in range(15))
        self.told((), ["+" * 16], board, (*go_on, ("go", 16)))
        self.told((), ["-" * 15 + "+"], board, (*go_on, ("stay",)))


class AgainstAllTuples(unittest.TestCase):
    def compare(self, board, orders):
        kept = kept_by(board, orders)
        self.assertEqual(kept, settlements(board, orders), (board, orders))
        most = tuple(any(items) for items in zip(*kept))
        self.assertIn(most, kept, (board, orders))
        self.assertEqual(most, settled(board, orders), (board, orders))
        plain = Round(board, orders)
        self.assertEqual(plain.kept, kept, (board, orders))
        self.assertEqual(plain.loose_rings(), loose_rings(board, orders), (board, orders))
        self.assertEqual(2 ** len(loose_rings(board, orders)), len(kept), (board, orders))
        return kept

    def test_all_orders_of_small_boards(self):
        for board in (TRIANGLE, (TRIANGLE[0], ((0, 0), (1, 1), (2, 2))), (LINE, ((0, 0), (1, 1), (2, 0))), THREE):
            for orders in orders_of_all(board):
                self.compare(board, orders)

    def test_all_gos_of_a_square(self):
        board = (SQUARE, ((0, 0), (1, 1), (2, 0), (3, 2)))
        loose = 0
        for orders in orders_of_all(board):
            if sum(order[0] == "go" for order in orders) > 2:
                loose += len(self.compare(board, orders)) - 1
        self.assertEqual(2, loose)

    def test_drawn_boards(self):
        for board, orders in drawn_boards(21, 400):
            self.compare(board, orders)

    def test_drawn_boards_of_two_players(self):
        for board, orders in drawn_boards(22, 250, most_fields=8, most_pieces=7, players=2):
            self.compare(board, orders)

    def test_drawn_boards_of_one_player(self):
        for board, orders in drawn_boards(23, 100, players=1):
            self.compare(board, orders)

    def test_drawn_pushes(self):
        for board, orders in [*drawn_pushes(30, 150), *drawn_pushes(130, 100, players=2)]:
            self.compare(board, orders)

    def test_drawn_rings(self):
        counts = [len(self.compare(board, orders)) for board, orders in drawn_rings(24, 400)]
        self.assertGreater(counts.count(2), 50)
        self.assertGreater(counts.count(1), 50)

    def test_players_called_otherwise(self):
        for board, orders in [*drawn_boards(25, 60, most_pieces=5), *drawn_rings(26, 60, most_pieces=5)]:
            for names in ((1, 2, 0), (5, 3, 4)):
                other = renamed(board, names)
                self.assertEqual(settlements(board, orders), settlements(other, orders))
                self.assertEqual(settled(board, orders), settled(other, orders))
                self.assertEqual(loose_rings(board, orders), loose_rings(other, orders))

    def test_fields_called_otherwise(self):
        for board, orders in [*drawn_boards(27, 60), *drawn_rings(28, 60)]:
            many = board[0][0]
            for names in ([*range(1, many), 0], list(range(many))[::-1]):
                other, other_orders, places = fields_renamed(board, orders, names)
                self.assertEqual(settled(board, orders), self.back(settled(other, other_orders), places))
                self.assertEqual(settlements(board, orders),
                                 tuple(sorted(self.back(value, places) for value in settlements(other, other_orders))))
                rings = [self.turned([places[place] for place in ring]) for ring in loose_rings(board, orders)]
                self.assertEqual(tuple(sorted(rings)), loose_rings(other, other_orders))

    def back(self, value, places):
        return tuple(value[place] for place in places)

    def turned(self, ring):
        least = ring.index(min(ring))
        return tuple(ring[least:] + ring[:least])

    def test_no_piece_is_in_two_rings(self):
        for board, orders in drawn_rings(29, 60):
            places = [place for ring in loose_rings(board, orders) for place in ring]
            self.assertEqual(len(places), len(set(places)))


class Sixteen(unittest.TestCase):
    def test_each_call_is_answered_soon(self):
        board = board_with([place % 3 for place in range(16)])
        line = tuple(("go", place + 1) for place in range(16))
        backs = (("go", 1), ("go", 2), *[("back", 0, 1), ("back", 1, 2)] * 7)
        start = time.perf_counter()
        for orders in (round_about(16), line, backs, round_about(16, 5), (("stay",),) * 16):
            for function in (settled, settlements, loose_rings):
                function(board, orders)
        self.assertLess(time.perf_counter() - start, 1.5)

    def test_nothing_returned_can_change(self):
        for function in (settled, settlements, loose_rings):
            self.assertTrue(is_plain(function(THREE, (("go", 1), ("go", 4), ("go", 0)))))


if __name__ == "__main__":
    unittest.main()
