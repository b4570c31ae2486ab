"""Bars and what can be cut there [G3], [G4], and what they are good for [G6]."""
import unittest

from tests.plain import FOUR, FULL, LINE, THREE, WHEEL, all_orders, renamed
from tests.plainsure import Own, all_own, crowd, drawn_own, error_of_sound, is_sure, orders_that_keep, pairs_of
from tests.situations import board_of, own_of
from tests.support import is_plain, returns
from whateverothers.bars import bars, cut_pairs
from whateverothers.settling import settled

YARD = (6, ((0, 1), (1, 2), (1, 3), (2, 4), (2, 5), (3, 4)), ())
# 0 goes to 1, 2 and 3 back it; 4 is near 1, 5 is near 2, 6 near 3, 7 near 0, 8 near nothing.
STREET = (9, ((0, 1), (0, 7), (1, 2), (1, 3), (1, 4), (2, 5), (3, 6)), ())

# What is shown, the chart, pieces, own orders of player a, the field of a piece, and its bars: each has its kind, main,
# helpers, cutters and backs, told by fields.
BARS = (
    ("into a free field, nobody near", WHEEL, "0:a", "0 go 1", 0, []),
    ("into a free field, one near", LINE, "0:a 2:b", "0 go 1", 0, [("rival", 2, [], [], [])]),
    ("into a free field, two near", WHEEL, "0:a 2:b 4:c", "0 go 1", 0,
     [("rival", 2, [4], [], []), ("rival", 4, [2], [], [])]),
    ("into a free field, one near its own field alone", WHEEL, "0:a 3:b", "0 go 1", 0, []),
    ("into a free field with a back", WHEEL, "0:a 2:b 3:c 4:a", "0 go 1; 4 back 0 1", 0,
     [("rival", 2, [], [3], [4])]),
    ("to a foreign piece", LINE, "0:a 1:b", "0 go 1", 0, [("holder", 1, [], [], []), ("meeter", 1, [], [], [])]),
    ("to a foreign piece with others near", STREET, "0:a 1:b 4:b 7:c", "0 go 1", 0,
     [("holder", 1, [4], [], []), ("meeter", 1, [7], [], []), ("rival", 4, [], [], [])]),
    ("with backs that may be cut", STREET, "0:a 1:b 2:a 3:a 5:b 6:c", "0 go 1; 2 back 0 1; 3 back 0 1", 0,
     [("holder", 1, [], [5, 6], [2, 3]), ("meeter", 1, [], [5, 6], [2, 3])]),
    ("main and helpers cut nothing", STREET, "0:a 1:b 2:a 3:a 4:b 5:b 6:c 7:b", "0 go 1; 2 back 0 1; 3 back 0 1", 0,
     [("holder", 1, [4], [5, 6], [2, 3]), ("meeter", 1, [7], [5, 6], [2, 3]), ("rival", 4, [], [5, 6], [2, 3])]),
    ("a helper there is a cutter elsewhere", FULL[:1] + (((0, 1), (0, 2), (1, 3), (1, 4), (2, 3), (2, 4)), ()),
     "0:a 1:b 2:a 3:b 4:c", "0 go 1; 2 stay", 0,
     [("holder", 1, [3, 4], [], []), ("meeter", 1, [], [], []), ("rival", 3, [4], [], []), ("rival", 4, [3], [], [])]),
    ("a helper of the holder may cut for the meeter", FULL[:1] + (((0, 1), (1, 2), (1, 3), (2, 3)), ()),
     "0:a 1:b 2:a 3:b", "0 go 1; 2 back 0 1", 0,
     [("holder", 1, [3], [], [2]), ("meeter", 1, [], [3], [2]), ("rival", 3, [], [], [2])]),
    ("the one in the field gone to cuts nothing", WHEEL, "0:a 1:b 4:a", "0 go 1; 4 back 0 1", 0,
     [("holder", 1, [], [], [4]), ("meeter", 1, [], [], [4])]),
    ("a back of a staying piece is no back of its go", WHEEL, "0:a 2:b 4:a", "0 go 1; 4 back 0 0", 0,
     [("rival", 2, [], [], [])]),
    ("a back of another go is none", WHEEL, "0:a 2:b 4:a", "0 go 1; 4 back 0 3", 0, [("rival", 2, [], [], [])]),
    ("stays, nobody near", LINE, "0:a 2:b", "0 stay", 0, []),
    ("stays", WHEEL, "0:a 1:b 3:c", "0 stay", 0, [("pusher", 1, [3], [], []), ("pusher", 3, [1], [], [])]),
    ("stays with a back", WHEEL, "0:a 1:b 2:c 4:a", "0 stay; 4 back 0 0", 0, [("pusher", 1, [], [2], [4])]),
    ("stays, a back of a go of it is none", WHEEL, "0:a 1:b 2:c 4:a", "0 stay; 4 back 0 1", 0,
     [("pusher", 1, [], [], [])]),
    ("backs, and is backed", WHEEL, "0:a 1:b 2:c 4:a", "0 back 4 4; 4 back 0 0", 4,
     [("pusher", 1, [2], [], [0]), ("pusher", 2, [1], [], [0])]),
    ("backs a go, with a helper that is struck", WHEEL, "0:a 1:b 3:b 4:a", "0 go 1; 4 back 0 1", 4,
     [("pusher", 1, [3], [], []), ("pusher", 3, [], [], [])]),
    ("a struck one may cut", WHEEL, "0:a 1:b 2:b 3:a 4:a", "0 go 1; 3 back 4 4; 4 stay", 4,
     [("pusher", 1, [2], [], [3]), ("pusher", 2, [], [], [3])]),
    ("a struck one cuts where it is near a back", FULL, "0:a 1:b 2:b 3:a 4:a", "0 go 1; 3 back 4 4; 4 stay", 4,
     [("pusher", 1, [2], [], [3]), ("pusher", 2, [], [1], [3])]),
    ("struck from the very field that is aimed at, it helps", WHEEL, "0:a 1:b 2:b 4:a", "0 stay; 4 go 1", 4,
     [("holder", 1, [2], [], []), ("meeter", 1, [2], [], []), ("rival", 2, [], [], [])]),
    ("a meeter's helper is struck from elsewhere", FULL, "0:a 1:b 2:a 3:b", "0 go 1; 2 go 3", 0,
     [("holder", 1, [], [], []), ("meeter", 1, [], [], []), ("rival", 3, [], [], [])]),
    ("a struck main is a main all the same", FULL, "0:a 1:b 2:a 3:b", "0 stay; 2 go 3", 0,
     [("pusher", 1, [], [], []), ("pusher", 3, [1], [], [])]),
    ("to an own piece that goes on", LINE, "0:a 1:a 3:b", "0 go 1; 1 go 2", 0, []),
    ("the own piece in the way", LINE, "0:a 1:a 3:b", "0 go 1; 1 go 2", 1, [("rival", 3, [], [], [])]),
    ("to an own piece, another one near", FULL[:1] + (((0, 1), (1, 2), (1, 3)), ()), "0:a 1:a 3:b", "0 go 1; 1 go 2", 0,
     [("rival", 3, [], [], [])]),
    ("to an own piece, the one where this goes to is no rival", LINE, "0:a 1:a 2:b", "0 go 1; 1 go 2", 0, []),
    ("to an own piece, the one where this goes to helps nobody", FULL, "0:a 1:a 2:b 3:b 4:a", "0 go 1; 1 go 2; 4 back 0 1",
     0, [("rival", 3, [], [2], [4])]),
    ("to an own piece, two rivals that help each other", FULL, "0:a 1:a 2:b 3:b 4:c", "0 go 1; 1 go 2", 0,
     [("rival", 3, [4], [], []), ("rival", 4, [3], [], [])]),
    ("own pieces round in a ring", FULL, "0:a 1:a 2:a 3:b", "0 go 1; 1 go 2; 2 go 0", 1, [("rival", 3, [], [], [])]),
    ("an own ring and nobody else", WHEEL, "0:a 1:a 4:a", "0 go 1; 1 go 4; 4 go 0", 0, []),
)


def told_by_fields(board, field_bars):
    places = {field: place for place, (field, _) in enumerate(board[1])}
    return tuple((kind, places[main], *[tuple(places[field] for field in fields) for fields in more])
                 for kind, main, *more in field_bars)


class Told(unittest.TestCase):
    def test_bars(self):
        for why, chart, pieces_told, own_told, field, expected in BARS:
            with self.subTest(why):
                board = board_of(chart, pieces_told)
                own = own_of(board, 0, own_told)
                self.assertIsNone(error_of_sound(board, 0, own))
                place = [item for item, _ in board[1]].index(field)
                returns(self, told_by_fields(board, expected), bars, board=board, own=own, place=place)

    def test_players_called_otherwise(self):
        for why, chart, pieces_told, own_told, field, expected in BARS:
            board = board_of(chart, pieces_told)
            own, place = own_of(board, 0, own_told), [item for item, _ in board[1]].index(field)
            for names in ((3, 4, 5), (5, 1, 0), (2, 0, 0)):
                with self.subTest(why, names=names):
                    self.assertEqual(told_by_fields(board, expected), bars(renamed(board, names), own, place))

    def test_all_kinds_are_shown(self):
        kinds = {bar[0] for *_, expected in BARS for bar in expected}
        self.assertEqual({"holder", "meeter", "rival", "pusher"}, kinds)

    def test_nothing_returned_can_change(self):
        told = bars(FOUR, (("go", 1), None, None, ("back", 0, 1)), 0)
        self.assertTrue(is_plain(told))
        self.assertTrue(is_plain(cut_pairs(FOUR, told[0])))


class CutPairs(unittest.TestCase):
    def told(self, expected, board, bar):
        returns(self, expected, cut_pairs, board=board, bar=bar)

    def test_of_bars(self):
        base = (YARD, ((0, 0), (1, 1), (2, 0), (3, 0), (4, 1)))
        wide = (YARD, base[1] + ((5, 2),))
        both = (("go", 1), None, ("back", 0, 1), ("back", 0, 1), None)
        for bar in bars(base, both, 0):
            self.told(((4, 2), (4, 3)), base, bar)
        for bar in bars(wide, both + (None,), 0):
            self.told(((4, 2), (4, 3), (5, 2)), wide, bar)

    def test_without_cutters_or_backs(self):
        self.told((), THREE, ("holder", 1, (), (), (2,)))
        self.told((), THREE, ("holder", 1, (), (), ()))
        self.told((), FOUR, ("pusher", 1, (2,), (), ()))

    def test_helpers_and_mains_are_in_no_pair(self):
        board = (FULL, tuple((field, field % 2) for field in range(8)))
        self.told(((5, 2), (5, 4), (7, 2), (7, 4)), board, ("holder", 1, (3,), (5, 7), (2, 4)))

    def test_what_is_not_near_cannot_be_cut(self):
        board = board_of(STREET, "0:a 1:b 2:a 3:a 5:b 6:c")
        own = (("go", 1), None, ("back", 0, 1), ("back", 0, 1), None, None)
        self.told(((4, 2), (5, 3)), board, bars(board, own, 0)[0])


class AgainstThePlainOnes(unittest.TestCase):
    def compare(self, board, own):
        """How many bars there are."""
        plain, many = Own(board, own), 0
        for place, (field, _) in enumerate(board[1]):
            if own[place] is not None:
                told = bars(board, own, place)
                self.assertEqual(plain.bars(field), told, (board, own, place))
                many += len(told)
                for bar in told:
                    self.assertEqual(pairs_of(board, bar), cut_pairs(board, bar), (board, bar))
        return many

    def test_all_sound_own_orders_of_small_boards(self):
        for board in (THREE, FOUR, (LINE, ((0, 0), (1, 0), (2, 1), (3, 0))), (YARD, ((0, 0), (1, 1), (2, 0), (4, 1)))):
            for player in (0, 1):
                for own in all_own(board, player):
                    if error_of_sound(board, player, own) is None:
                        self.compare(board, own)

    def test_drawn_boards(self):
        drawn = [(board, own) for board, player, own in [*drawn_own(61, 800), *drawn_own(62, 400, players=2)]
                 if error_of_sound(board, player, own) is None]
        self.assertGreater(sum(self.compare(board, own) for board, own in drawn), 1000)

    def test_sixteen_pieces(self):
        for seed in range(20):
            board, own = crowd(seed)
            self.compare(board, own)
            place = [at for at, item in enumerate(own) if item is not None][-1]
            returns(self, Own(board, own).bars(board[1][place][0]), bars, board=board, own=own, place=place)

    def test_fifteen_foreign_pieces(self):
        board = (FULL, ((0, 0), *[(field, 1) for field in range(1, 16)]))
        told = bars(board, (("go", 1), *[None] * 15), 0)
        self.assertEqual(["holder", "meeter"] + ["rival"] * 14, [bar[0] for bar in told])
        self.assertEqual([1, 1, *range(2, 16)], [bar[1] for bar in told])
        for bar in told:
            helpers = tuple(place for place in range(2, 16) if place != bar[1])
            self.assertEqual((helpers, (), ()), bar[2:])


class ThePromise(unittest.TestCase):
    """With the harm of each bar told by trying all, bars tell what is sure for all orders of the others."""

    def is_so(self, board, orders, place, told):
        if orders[place][0] == "go":
            return told[place]
        goers = [goer for goer, order in enumerate(orders) if order == ("go", board[1][place][0])]
        return not any(told[goer] for goer in goers)

    def compare(self, board, own):
        places = [place for place, item in enumerate(own) if item is not None]
        never_broken = dict.fromkeys(places, True)
        for orders in orders_that_keep(board, own):
            told = settled(board, orders)
            for place in places:
                never_broken[place] = never_broken[place] and self.is_so(board, orders, place, told)
        for place in places:
            self.assertEqual(never_broken[place], is_sure(board, own, board[1][place][0]), (board, own, place))
        return list(never_broken.values())

    def test_small_boards(self):
        for board in (THREE, (LINE, ((0, 0), (1, 0), (2, 1), (3, 0)))):
            for own in all_own(board, 0):
                if error_of_sound(board, 0, own) is None:
                    self.compare(board, own)

    def test_drawn_boards(self):
        found = []
        for board, player, own in drawn_own(63, 500, most_fields=7, most_pieces=6, players=2):
            tries = 1
            for place, item in enumerate(own):
                tries *= 1 if item is not None else len(all_orders(board, place))
            if error_of_sound(board, player, own) is None and tries < 2500:
                found += self.compare(board, own)
        self.assertGreater(found.count(True), 40)
        self.assertGreater(found.count(False), 40)


if __name__ == "__main__":
    unittest.main()
