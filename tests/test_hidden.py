"""Orders that were not seen [J1], [J2], [J3]."""
import itertools
import random
import unittest

from tests.plain import FULL, LINE, STAR, THREE, WHEEL, all_orders, drawn_boards, orders_of_all
from tests.plainplans import all_ways, fitting, known_by, many_fitting, seen_behind
from tests.plainrounds import drawn_pushes, drawn_rings
from tests.support import call_alike, is_plain, raises, returns, subsets
from whateverothers.hidden import known, ways
from whateverothers.ordering import orders_of

PUSH = (("go", 1), None, ("back", 0, 1))


def hide(orders, places):
    return tuple(None if place in places else order for place, order in enumerate(orders))


def others_than(board, pieces):
    """Pieces like these with one more, one less, one elsewhere, another's."""
    fields = [field for field, _ in pieces]
    for field in range(board[0][0]):
        if field not in fields and len(pieces) < 16:
            yield tuple(sorted([*pieces, (field, 0)]))
    for at, (field, player) in enumerate(pieces):
        left = pieces[:at] + pieces[at + 1:]
        yield left
        yield tuple(sorted([*left, (field, (player + 1) % 3)]))
        for other in range(board[0][0]):
            if other not in fields:
                yield tuple(sorted([*left, (other, player)]))


class Ways(unittest.TestCase):
    def told(self, expected, board, told, seen):
        returns(self, expected, ways, board=board, told=told, seen=seen)

    def test_nothing_hidden(self):
        stays = (("stay",),) * 3
        self.told((stays,), THREE, stays, THREE[1])
        self.told((), THREE, stays, THREE[1][1:])
        self.told((), THREE, stays, ())
        push = (("go", 1), ("stay",), ("back", 0, 1))
        self.told((push,), THREE, push, ((1, 0), (4, 0)))
        self.told((), THREE, push, THREE[1])

    def test_nobody(self):
        self.told(((),), (WHEEL, ()), (), ())
        self.told((), (WHEEL, ()), (), ((0, 0),))

    def test_one_hidden(self):
        found = [("stay",), ("go", 0), ("go", 4), ("back", 0, 0), ("back", 0, 4), ("back", 4, 0), ("back", 4, 2),
                 ("back", 4, 4)]
        self.told(tuple((("go", 1), order, ("back", 0, 1)) for order in found), THREE, PUSH, ((1, 0), (4, 0)))
        self.told(((("go", 1), ("go", 2), ("back", 0, 1)),), THREE, PUSH, ((1, 0), (2, 1), (4, 0)))
        self.told((), THREE, PUSH, THREE[1])

    def test_two_hidden_of_which_one_backs_the_other(self):
        self.told(((("go", 1), ("stay",), ("back", 0, 1)),), THREE, (None, ("stay",), None), ((1, 0), (4, 0)))

    def test_a_loose_ring_goes(self):
        ring = (("go", 1), ("go", 4), ("go", 0))
        self.told((ring,), THREE, (None, *ring[1:]), ((0, 0), (1, 0), (4, 1)))
        self.assertNotIn(ring, ways(THREE, (None, *ring[1:]), THREE[1]))

    def test_order_of_two_hidden(self):
        board = (LINE, ((1, 0), (2, 1)))
        told = ways(board, (None, None), board[1])
        self.assertEqual(all_ways(board, (None, None), board[1]), told)
        places = [tuple(orders_of(board, place).index(order) for place, order in enumerate(orders)) for orders in told]
        self.assertEqual(sorted(places), places)
        self.assertGreater(len(places), 5)

    def test_what_is_returned_is_plain(self):
        self.assertTrue(is_plain(ways(THREE, PUSH, ((1, 0), (4, 0)))))
        self.assertTrue(is_plain(known(THREE, PUSH, ((1, 0), (4, 0)))))


class AgainstAll(unittest.TestCase):
    def compare(self, board, told, seen):
        found = all_ways(board, told, seen)
        self.assertEqual(found, ways(board, told, seen), (board, told, seen))
        if found:
            self.assertEqual(known_by(found), known(board, told, seen))
        else:
            raises(self, "Unfit", known, board=board, told=told, seen=seen)
        return len(found)

    def test_all_orders_of_a_small_board(self):
        board = (LINE, ((0, 0), (1, 1), (2, 0)))
        seen = {seen_behind(board, orders) for orders in orders_of_all(board)}
        for places in ((0,), (1,), (2,), (0, 1), (1, 2), (0, 2)):
            for orders in itertools.islice(orders_of_all(board), 0, None, 5):
                for pieces in sorted(seen):
                    self.compare(board, hide(orders, places), pieces)

    def test_drawn_boards(self):
        counts = []
        drawn = [*drawn_boards(131, 90), *drawn_pushes(132, 90, most_pieces=6), *drawn_rings(133, 40, most_pieces=5)]
        draw = random.Random(134)
        for board, orders in drawn:
            places = draw.sample(range(len(orders)), min(len(orders), draw.choice((0, 1, 1, 2, 2))))
            told = hide(orders, places)
            if many_fitting(board, told) > 1500:
                continue
            seen = seen_behind(board, orders)
            counts.append(self.compare(board, told, seen))
            self.assertGreater(counts[-1], 0)
            for other in draw.sample(list(others_than(board, seen)), 3):
                counts.append(self.compare(board, told, other))
        self.assertLessEqual({0, 1, 2, 3, 4}, set(counts))

    def test_each_orders_are_in_the_ways_of_just_one_seen(self):
        told = (None, ("go", 1), None)
        board = (WHEEL, ((0, 0), (2, 1), (4, 2)))
        seen = sorted({seen_behind(board, orders) for orders in fitting(board, told)})
        found = [orders for pieces in seen for orders in ways(board, told, pieces)]
        self.assertEqual(sorted(fitting(board, told)), sorted(found))

    def test_more_that_is_hidden_loses_none(self):
        for board, orders in drawn_pushes(135, 40, most_pieces=5):
            seen = seen_behind(board, orders)
            for place in range(len(orders)):
                one = ways(board, hide(orders, (place,)), seen)
                other = (place + 1) % len(orders)
                if many_fitting(board, hide(orders, (place, other))) <= 20000:
                    self.assertLessEqual(set(one), set(ways(board, hide(orders, (place, other)), seen)))

    def test_what_is_known_stays_known(self):
        for board, orders in drawn_pushes(136, 60, most_pieces=5):
            seen = seen_behind(board, orders)
            told = hide(orders, (0, 1))
            if many_fitting(board, told) <= 2000:
                found = known(board, told, seen)
                for item, place in ((item, place) for place, item in enumerate(found) if item is not None):
                    more = told[:place] + (item,) + told[place + 1:]
                    self.assertEqual(found, known(board, more, seen))

    def test_calls(self):
        for board, orders in drawn_pushes(137, 12, most_pieces=5):
            for places in subsets(range(2)):
                told, seen = hide(orders, places), seen_behind(board, orders)
                call_alike(self, ways, board=board, told=told, seen=seen)
                call_alike(self, known, board=board, told=told, seen=seen)
                call_alike(self, known, board=board, told=told, seen=())


class TooMany(unittest.TestCase):
    def refused(self, board, told, seen):
        for function in (ways, known):
            self.assertEqual(("raised", "TooMany", "{'limit': 20000}"),
                             call_alike(self, function, board=board, told=told, seen=seen))

    def boards(self):
        """Boards with two pieces to hide, and in how many ways these can be ordered."""
        for many in range(9, 17):
            pieces = tuple((field, field % 2) for field in range(many))
            for size in range(many, 25):
                roads = tuple(pair for pair in FULL[1] if pair[1] < size)
                board = ((size, roads, ()), pieces)
                yield board, len(all_orders(board, 0)) * len(all_orders(board, 1))

    def test_just_too_many_and_just_not(self):
        counts = sorted(self.boards(), key=lambda item: item[1])
        under = [board for board, many in counts if many <= 20000][-3:]
        over = [board for board, many in counts if many > 20000][:3]
        for board in under:
            stays = (("stay",),) * len(board[1])
            found = ways(board, hide(stays, (0, 1)), board[1])
            self.assertIn(stays, found)
            self.assertEqual(len(board[1]), len(known(board, hide(stays, (0, 1)), board[1])))
            raises(self, "Unfit", known, board=board, told=hide(stays, (0, 1)), seen=())
        for board in over:
            stays = (("stay",),) * len(board[1])
            for seen in (board[1], (), board[1][1:], ((0, 5),)):
                self.refused(board, hide(stays, (0, 1)), seen)
            ways(board, hide(stays, (0,)), board[1])

    def test_exactly_twenty_thousand(self):
        board, places = self.board_with(20000)
        stays = (("stay",),) * len(board[1])
        told = hide(stays, places)
        self.assertEqual(20000, many_fitting(board, told))
        found = ways(board, told, board[1])
        self.assertEqual(stays, found[0])
        self.assertEqual((), ways(board, told, ()))

    def board_with(self, many):
        """A board with two pieces that can be ordered in so many ways."""
        draw = random.Random(1)
        for size, _ in itertools.product(range(12, 25), range(60)):
            roads = tuple(sorted(draw.sample([pair for pair in FULL[1] if pair[1] < size], size * (size - 1) // 3)))
            board = ((size, roads, ()), tuple((field, field % 2) for field in range(min(size, 16))))
            orders = [len(orders_of(board, place)) for place in range(len(board[1]))]
            for one, other in itertools.combinations(range(len(orders)), 2):
                if orders[one] * orders[other] == many:
                    return board, (one, other)
        return None

    def test_stars(self):
        # Each piece of a star but the middle one can do little.
        board = (STAR, tuple((field, field % 3) for field in range(6)))
        stays = (("stay",),) * 6
        found = ways(board, hide(stays, (4, 5)), board[1])
        self.assertEqual(all_ways(board, hide(stays, (4, 5)), board[1]), found)


if __name__ == "__main__":
    unittest.main()
