"""Fewest backs [I1], [I2], [I3]."""
import unittest

from tests.plain import FOUR, FULL, LINE, THREE, WHEEL, all_orders
from tests.plainsure import chain_of, crowd, drawn_own, error_of_sound, is_sure
from tests.situations import board_of, own_of
from tests.support import call_alike, is_plain, returns, subsets
from tests.test_surety import drawn_ways
from whateverothers.breaking import paper
from whateverothers.helping import least_backs

# A road of fields: 0 goes to 1; 2, 3 and 4 are near 1; 5, 6 and 7 are near these, each near one.
ROADS = (8, ((0, 1), (1, 2), (1, 3), (1, 4), (2, 5), (3, 6), (4, 7)), ())

# What is shown, the chart, pieces, own orders of player a, the field of a piece, and the fields of those that lend in
# the one way with fewest; None where nothing helps.
LENT = (
    ("sure as it is", LINE, "0:a 2:a", "0 stay; 2 stay", 0, []),
    ("to a foreign piece", WHEEL, "0:a 1:b 4:a", "0 go 1; 4 stay", 0, [4]),
    ("to a foreign piece, nobody near", WHEEL, "0:a 1:b 3:a", "0 go 1; 3 stay", 0, None),
    ("to a foreign piece, the one near backs something else", WHEEL, "0:a 1:b 4:a", "0 go 1; 4 back 0 0", 0, None),
    ("to a foreign piece, the one near goes", WHEEL, "0:a 1:b 4:a", "0 go 1; 4 go 3", 0, None),
    ("to a foreign piece, it is backed already", WHEEL, "0:a 1:b 2:a 4:a", "0 go 1; 2 stay; 4 back 0 1", 0, []),
    ("to a foreign piece, one more to one that backs already", ROADS, "0:a 1:b 2:a 3:a 5:b",
     "0 go 1; 2 back 0 1; 3 stay",
     0, [3]),
    ("to a foreign piece, one that can be cut does not help", WHEEL, "0:a 1:b 3:b 4:a", "0 go 1; 4 stay", 0, None),
    ("to a foreign piece, one that can be cut and one that cannot", ROADS, "0:a 1:b 2:a 3:a 5:b",
     "0 go 1; 2 stay; 3 stay",
     0, [3]),
    ("to a foreign piece, both can be cut, but by one alone", FULL[:1] + (((0, 1), (1, 2), (1, 3), (2, 4), (3, 4)), ()),
     "0:a 1:b 2:a 3:a 4:b", "0 go 1; 2 stay; 3 stay", 0, [2, 3]),
    ("to a foreign piece, two can be cut, one cannot", ROADS, "0:a 1:b 2:a 3:a 4:a 5:b 6:c",
     "0 go 1; 2 stay; 3 stay; 4 stay", 0, [4]),
    ("to a foreign piece, all can be cut", ROADS, "0:a 1:b 2:a 3:a 4:a 5:b 6:c 7:b", "0 go 1; 2 stay; 3 stay; 4 stay",
     0,
     None),
    ("into a free field, one near", LINE, "0:a 2:b", "0 go 1", 0, None),
    ("into a free field, with one that can lend", WHEEL, "0:a 2:b 4:a", "0 go 1; 4 stay", 0, [4]),
    ("into a free field, with two that can lend", FULL[:1] + (((0, 1), (1, 2), (1, 3), (1, 4), (2, 4)), ()),
     "0:a 2:b 3:a 4:a", "0 go 1; 3 stay; 4 stay", 0, [3]),
    ("stays, against two", WHEEL, "0:a 1:b 3:c 4:a", "0 stay; 4 stay", 0, [4]),
    ("stays, the other one backs already", WHEEL, "0:a 1:b 3:c 4:a", "0 stay; 4 back 0 0", 4, [0]),
    ("backs, and is backed by one that stays", FOUR[0], "0:a 1:b 3:b 4:a", "0 stay; 4 back 0 0", 4, [0]),
    ("stays, nobody near", FULL[:1] + (((0, 1), (0, 2), (3, 4)), ()), "0:a 1:b 2:b 3:a", "0 stay; 3 stay", 0,
     None),
    ("a go is not backed in staying", WHEEL, "0:a 1:b 3:a 4:a", "0 go 1; 3 stay; 4 stay", 0, [4]),
    ("in a chain, its own link lacks a back", FULL[:1] + (((0, 1), (1, 2), (1, 3), (1, 4), (1, 5)), ()),
     "0:a 1:a 3:b 4:a 5:a", "0 go 1; 1 go 2; 4 stay; 5 stay", 0, [4]),
    ("in a chain, another link lacks a back", FULL[:1] + (((0, 1), (1, 2), (1, 4), (2, 3), (2, 5)), ()),
     "0:a 1:a 3:b 4:a 5:a", "0 go 1; 1 go 2; 4 stay; 5 stay", 0, None),
    ("of that link itself", FULL[:1] + (((0, 1), (1, 2), (1, 4), (2, 3), (2, 5), (2, 6)), ()), "0:a 1:a 3:b 4:a 5:a",
     "0 go 1; 1 go 2; 4 stay; 5 stay", 1, [5]),
)


def with_lent(board, own, place, lenders):
    field = board[1][place][0]
    back = ("back", field, own[place][1] if own[place][0] == "go" else field)
    return tuple(back if other in lenders else item for other, item in enumerate(own)), back


def lenders_of(board, own, place):
    """[I1], word by word."""
    back = with_lent(board, own, place, ())[1]
    return [other for other, item in enumerate(own)
            if other != place and item == ("stay",) and back in all_orders(board, other)]


def fewest(board, own, place):
    """How few lenders are enough, over ALL choices of them; None if none are."""
    field = board[1][place][0]
    enough = [len(some) for some in subsets(lenders_of(board, own, place))
              if is_sure(board, with_lent(board, own, place, some)[0], field)]
    return min(enough) if enough else None


class ByHand(unittest.TestCase):
    def test_who_lends(self):
        for why, chart, pieces_told, own_told, field, lent in LENT:
            board = board_of(chart, pieces_told)
            own, fields = own_of(board, 0, own_told), [taken for taken, _ in board[1]]
            with self.subTest(why):
                self.assertIsNone(error_of_sound(board, 0, own))
                place, expected = fields.index(field), None
                if lent is not None:
                    expected = with_lent(board, own, place, [fields.index(other) for other in lent])[0]
                returns(self, expected, least_backs, board=board, own=own, place=place)

    def test_any_of_several(self):
        board = board_of(FULL[:1] + (((0, 1), (1, 2), (1, 3), (1, 4)), ()), "0:a 1:b 2:a 3:a 4:a")
        own = own_of(board, 0, "0 go 1; 2 stay; 3 stay; 4 stay")
        told = least_backs(board, own, 0)
        self.assertIn(told, [with_lent(board, own, 0, (place,))[0] for place in (2, 3, 4)])


class AgainstAll(unittest.TestCase):
    def compare(self, board, player, own):
        """How many lend, piece by piece."""
        for place, item in enumerate(own):
            if item is None:
                continue
            told, many = least_backs(board, own, place), fewest(board, own, place)
            if told is None:
                everybody = with_lent(board, own, place, lenders_of(board, own, place))[0]
                self.assertFalse(is_sure(board, everybody, board[1][place][0]))
            else:
                self.check_lent(board, player, own, place, told)
                if many == 0:
                    self.assertEqual(own, told)
            lent = None if told is None else len([at for at, other in enumerate(told) if other != own[at]])
            self.assertEqual(many, lent, (board, own, place))
            yield many

    def check_lent(self, board, player, own, place, told):
        self.assertTrue(is_plain(told))
        self.assertIsNone(error_of_sound(board, player, told))
        self.assertTrue(is_sure(board, told, board[1][place][0]))
        self.assertEqual("sure", paper(board, told, place)[0])
        changed = [other for other, item in enumerate(told) if item != own[other]]
        self.assertEqual(with_lent(board, own, place, changed)[0], told)
        self.assertLessEqual(set(changed), set(lenders_of(board, own, place)))
        self.assertEqual(chain_of(board, own, place), chain_of(board, told, place))

    def test_what_was_found_by_hand(self):
        for why, chart, pieces_told, own_told, _, _ in LENT:
            board = board_of(chart, pieces_told)
            with self.subTest(why):
                list(self.compare(board, 0, own_of(board, 0, own_told)))

    def test_drawn_boards(self):
        found = []
        larger = drawn_own(122, 900, most_fields=12, most_pieces=11, players=2)
        for board, player, own in [*drawn_own(121, 1000), *larger]:
            own = self.with_more_that_stay(own)
            if error_of_sound(board, player, own) is None:
                found += self.compare(board, player, own)
        self.assertLessEqual({None, 0, 1, 2}, set(found))
        self.assertGreater(len([many for many in found if many not in (None, 0)]), 100)

    def with_more_that_stay(self, own):
        """The same with every other back exchanged for staying."""
        backs = [place for place, item in enumerate(own) if item is not None and item[0] == "back"]
        return tuple(("stay",) if place in backs[::2] else item for place, item in enumerate(own))

    def test_chains_and_rings(self):
        found = []
        for board, own in drawn_ways(123, 200):
            found += self.compare(board, 0, self.with_more_that_stay(own))
        self.assertLessEqual({None, 0, 1}, set(found))

    def test_sixteen_pieces(self):
        for seed in range(6):
            board, own = crowd(seed)
            list(self.compare(board, 0, own))

    def test_seven_that_can_lend(self):
        for many in range(1, 8):
            pieces = ((0, 0), *[(field, 0) for field in range(1, 8)], *[(field, 1) for field in range(8, 8 + many)])
            board = (FULL, pieces)
            for order, needed in ((("stay",), many - 1), (("go", 20), many)):
                own = (order, *[("stay",)] * 7, *[None] * many)
                told = least_backs(board, own, 0)
                self.assertEqual(needed, sum(item != ("stay",) for item in told[1:8]), (many, order))
                self.check_lent(board, 0, own, 0, told)

    def test_many_that_can_lend(self):
        for many in (8, 9, 10, 12, 15):
            foreign = 15 - many
            pieces = (*[(field, 0) for field in range(many + 1)], *[(field, 1) for field in range(many + 1, 16)])
            own = (("go", 20), *[("stay",)] * many, *[None] * foreign)
            told = call_alike(self, least_backs, board=(FULL, pieces), own=own, place=0)
            self.assertEqual(("returned", repr(least_backs((FULL, pieces), own, 0))), told)
            told = least_backs((FULL, pieces), own, 0)
            self.assertEqual(foreign, sum(item != ("stay",) for item in told[1:many + 1]), many)

    def test_calls(self):
        for board, player, own in drawn_own(124, 60):
            if error_of_sound(board, player, own) is None:
                for place in [place for place, item in enumerate(own) if item is not None]:
                    call_alike(self, least_backs, board=board, own=own, place=place)

    def test_with_what_is_returned_it_is_sure_as_it_is(self):
        own = (("go", 1), None, ("stay",))
        told = least_backs(THREE, own, 0)
        self.assertEqual(told, least_backs(THREE, told, 0))


if __name__ == "__main__":
    unittest.main()
