"""Harm, chains, and what is sure [G4], [G5], [G6]."""
import itertools
import random
import unittest

from tests.plain import FOUR, FULL, LINE, STAR, THREE, WHEEL, all_orders, renamed
from tests.plainsure import (Own, all_own, chain_of, crowd, drawn_own, error_of_sound, harm_of, is_shut, is_sure,
                             many_orders, pairs_of, told_by_all)
from tests.situations import board_of, own_of
from tests.support import is_plain, returns
from whateverothers.bars import bars
from whateverothers.sound import sound_error
from whateverothers.surety import chain, harm, shut, sure

YARD = (6, ((0, 1), (1, 2), (1, 3), (2, 4), (2, 5), (3, 4)), ())
# 0 goes to 1, 2 and 3 back it; 4 is near 1, 5 is near 2, 6 near 3, 7 near 0, 8 near nothing.
STREET = (9, ((0, 1), (0, 7), (1, 2), (1, 3), (1, 4), (2, 5), (3, 6)), ())
WAY = (16, tuple((field, field + 1) for field in range(15)), ())

# What is shown, the chart, pieces, own orders of player a, and the fields of all pieces that are sure and of all free
# fields that are shut.
SURE = (
    ("nobody", LINE, "", "", [], [0, 1, 2, 3]),
    ("nobody of this player", LINE, "0:b", "", [], [2, 3]),
    ("stays, nobody near", LINE, "0:a 2:b", "0 stay", [0], []),
    ("stays, one near", LINE, "0:a 1:b", "0 stay", [0], [3]),
    ("stays, two near that are strong together", WHEEL, "0:a 1:b 3:b", "0 stay", [], []),
    ("stays with a back against two", WHEEL, "0:a 1:b 3:c 4:a", "0 stay; 4 back 0 0", [0], []),
    ("a back is not backed itself", WHEEL, "0:a 1:b 3:b 4:a", "0 stay; 4 back 0 0", [0], []),
    ("backs each other", WHEEL, "0:a 1:b 3:b 4:a", "0 back 4 4; 4 back 0 0", [0, 4], []),
    ("into a free field, nobody near", WHEEL, "0:a 3:b", "0 go 1", [0], [1]),
    ("into a free field, one near", LINE, "0:a 2:b", "0 go 1", [], [1]),
    ("into a free field, two near", STREET, "0:a 3:b 4:b", "0 go 1", [], [2, 5, 7, 8]),
    ("into a free field, one near and a back", STREET, "0:a 2:a 4:b", "0 go 1; 2 back 0 1", [0, 2], [1, 3, 5, 6, 7, 8]),
    ("into a free field, two near and a back", STREET, "0:a 2:a 3:b 4:b", "0 go 1; 2 back 0 1", [2], [1, 5, 7, 8]),
    ("into a free field, two near and two backs", FULL[:1] + (((0, 1), (1, 2), (1, 3), (1, 4), (1, 5)), ()),
     "0:a 2:a 3:a 4:b 5:c", "0 go 1; 2 back 0 1; 3 back 0 1", [0, 2, 3], [1, *range(6, 24)]),
    ("a free field that own pieces are near, but do not go to", STAR, "1:a 2:a 3:b", "1 stay; 2 stay", [1, 2], [4, 5]),
    ("to a foreign piece", LINE, "0:a 1:b", "0 go 1", [], [3]),
    ("to a foreign piece with a back", WHEEL, "0:a 1:b 4:a", "0 go 1; 4 back 0 1", [0, 4], [3]),
    ("with a back that can be cut", WHEEL, "0:a 1:b 3:c 4:a", "0 go 1; 4 back 0 1", [], []),
    ("with two backs of which one can be cut", YARD, "0:a 1:b 2:a 3:a 4:b", "0 go 1; 2 back 0 1; 3 back 0 1", [0], [5]),
    ("with two backs that can both be cut", YARD, "0:a 1:b 2:a 3:a 4:b 5:c", "0 go 1; 2 back 0 1; 3 back 0 1", [], []),
    ("with a back that each of two can cut", YARD, "0:a 1:b 2:a 4:b 5:c", "0 go 1; 2 back 0 1", [], []),
    ("a helper of the holder", STREET, "0:a 1:b 2:a 4:b", "0 go 1; 2 back 0 1", [2], [5, 6, 7, 8]),
    ("a helper of the meeter", STREET, "0:a 1:b 2:a 7:b", "0 go 1; 2 back 0 1", [2], [5, 6, 8]),
    ("one behind another", LINE, "0:a 1:a", "0 go 1; 1 go 2", [0, 1], [2, 3]),
    ("one behind another, into the way of a foreign piece", LINE, "0:a 1:a 3:b", "0 go 1; 1 go 2", [], [2]),
    ("one behind another that pushes a foreign piece", FULL[:1] + (((0, 1), (1, 2), (2, 3)), ()),
     "0:a 1:a 2:b 3:a", "0 go 1; 1 go 2; 3 back 1 2", [0, 1, 3], list(range(4, 24))),
    ("behind one that need not get on, with a back", FULL[:1] + (((0, 1), (1, 2), (1, 3), (2, 4)), ()),
     "0:a 1:a 3:a 4:b", "0 go 1; 1 go 2; 3 back 0 1", [3], [2, *range(5, 24)]),
    ("with a rival behind an own piece", FULL[:1] + (((0, 1), (1, 2), (1, 3)), ()), "0:a 1:a 3:b", "0 go 1; 1 go 2",
     [1], [2, *range(4, 24)]),
    ("a ring and nobody else", WHEEL, "0:a 1:a 4:a", "0 go 1; 1 go 4; 4 go 0", [0, 1, 4], [2, 3]),
    ("a ring and one near one of its fields", WHEEL, "0:a 1:a 2:b 4:a", "0 go 4; 1 go 0; 4 go 1", [], []),
    ("into a ring of others", FULL, "0:a 1:b 2:b", "0 go 1", [], []),
)


def drawn_ways(seed, turns):
    """Boards with three own pieces that go round in a ring, or one behind another, and some that back them."""
    draw = random.Random(seed)
    pairs = [(0, 1), (0, 2), (1, 2), (2, 3)]
    for _ in range(turns):
        more = draw.sample([pair for pair in itertools.combinations(range(7), 2) if pair not in pairs], 7)
        goal = draw.choice((0, 3))
        foreign = draw.choice(((4, 5), (4, 6), (3, 5) if goal else (4, 5)))
        others = {field: draw.choice((1, 2)) for field in foreign}
        own_fields = sorted({0, 1, 2, draw.choice([field for field in (4, 5, 6) if field not in foreign])})
        pieces = tuple(sorted([*others.items(), *[(field, 0) for field in own_fields]]))
        board = ((7, tuple(sorted(pairs + more)), ()), pieces)
        orders = {0: ("go", 1), 1: ("go", 2), 2: ("go", goal)}
        for place, (field, player) in enumerate(board[1]):
            backs = [order for order in all_orders(board, place) if order[1:] in ((0, 1), (1, 2), (2, goal))]
            if player == 0 and field > 2:
                orders[field] = draw.choice(backs or [("stay",)])
        yield board, tuple(orders.get(field) for field, _ in board[1])


class Hand(unittest.TestCase):
    def test_what_is_sure_and_shut(self):
        for why, chart, pieces_told, own_told, sure_fields, shut_fields in SURE:
            board = board_of(chart, pieces_told)
            own, fields = own_of(board, 0, own_told), [field for field, _ in board[1]]
            with self.subTest(why):
                self.assertIsNone(error_of_sound(board, 0, own))
                for place, item in enumerate(own):
                    if item is not None:
                        returns(self, fields[place] in sure_fields, sure, board=board, own=own, place=place)
                for field in range(chart[0]):
                    if field not in fields:
                        returns(self, field in shut_fields, shut, board=board, own=own, field=field)

    def test_players_called_otherwise(self):
        for why, chart, pieces_told, own_told, sure_fields, _ in SURE:
            board = board_of(chart, pieces_told)
            own = own_of(board, 0, own_told)
            for names in ((3, 4, 5), (5, 1, 0), (2, 0, 0)):
                with self.subTest(why, names=names):
                    told = [field for place, (field, _) in enumerate(board[1])
                            if own[place] is not None and sure(renamed(board, names), own, place)]
                    self.assertEqual(sure_fields, told)


class Harm(unittest.TestCase):
    def all_deals(self, board, bar):
        """The most helpers and backs that are cut, over all ways to deal each cutter with one back or none."""
        pairs = pairs_of(board, bar)
        choices = [[None] + [back for other, back in pairs if other == cutter] for cutter in bar[3]]
        return len(bar[2]) + max(len(set(deal) - {None}) for deal in itertools.product(*choices))

    def compare(self, board, own):
        for place, item in enumerate(own):
            for bar in bars(board, own, place) if item is not None else ():
                expected = harm_of(board, bar)
                if len(bar[3]) < 6:
                    self.assertEqual(self.all_deals(board, bar), expected)
                returns(self, expected, harm, board=board, bar=bar)
                self.assertLessEqual(expected, len(bar[2]) + min(len(bar[3]), len(bar[4])))
                self.assertGreaterEqual(expected, len(bar[2]))
                if not bar[2] and not bar[3]:
                    self.assertEqual(0, expected)
                yield expected

    def test_of_bars_made_by_hand(self):
        board = (FULL, tuple((field, field % 2) for field in range(16)))
        returns(self, 0, harm, board=board, bar=("holder", 1, (), (), (2, 4)))
        returns(self, 2, harm, board=board, bar=("holder", 1, (), (3, 5, 7), (2, 4)))
        returns(self, 3, harm, board=board, bar=("pusher", 1, (9,), (3, 5, 7), (2, 4)))
        returns(self, 7, harm, board=board, bar=("rival", 15, (), (1, 3, 5, 7, 9, 11, 13), (0, 2, 4, 6, 8, 10, 12, 14)))
        returns(self, 5, harm, board=board, bar=("meeter", 1, (3, 5, 7, 9, 11), (), (0, 2, 4)))

    def test_drawn_boards(self):
        found = []
        for board, player, own in [*drawn_own(71, 400), *drawn_own(72, 200, most_fields=12, most_pieces=11, players=2)]:
            if error_of_sound(board, player, own) is None:
                found += self.compare(board, own)
        self.assertLessEqual({0, 1, 2, 3, 4}, set(found))

    def test_sixteen_pieces(self):
        found = [item for seed in range(10) for item in self.compare(*crowd(seed))]
        self.assertGreater(len(found), 100)


class Chains(unittest.TestCase):
    def told(self, expected, chart, pieces_told, own_told, field):
        board = board_of(chart, pieces_told)
        own = own_of(board, 0, own_told)
        fields = [field for field, _ in board[1]]
        self.assertIsNone(error_of_sound(board, 0, own))
        returns(self, tuple(fields.index(item) for item in expected), chain, board=board, own=own,
                place=fields.index(field))

    def test_pieces_that_do_not_go(self):
        self.told([0], WHEEL, "0:a 1:a 4:a", "0 stay; 1 back 0 0; 4 go 3", 0)
        self.told([1], WHEEL, "0:a 1:a 4:a", "0 stay; 1 back 0 0; 4 go 3", 1)

    def test_into_free_fields_and_to_foreign_pieces(self):
        self.told([0], WHEEL, "0:a 1:b 4:a", "0 go 3; 4 stay", 0)
        self.told([0], WHEEL, "0:a 1:b 4:a", "0 go 1; 4 stay", 0)

    def test_one_behind_another(self):
        for field, expected in ((0, [0, 1, 2]), (1, [1, 2]), (2, [2])):
            self.told(expected, LINE, "0:a 1:a 2:a", "0 go 1; 1 go 2; 2 go 3", field)
            self.told(expected, LINE, "0:a 1:a 2:a 3:b", "0 go 1; 1 go 2; 2 go 3", field)
        self.told([3, 2, 1], LINE, "1:a 2:a 3:a", "1 go 0; 2 go 1; 3 go 2", 3)

    def test_round_rings(self):
        for field, expected in ((0, [0, 1, 4]), (1, [1, 4, 0]), (4, [4, 0, 1])):
            self.told(expected, WHEEL, "0:a 1:a 4:a", "0 go 1; 1 go 4; 4 go 0", field)
        for field, expected in ((0, [0, 3, 2, 1]), (2, [2, 1, 0, 3])):
            self.told(expected, WHEEL, "0:a 1:a 2:a 3:a 4:b", "0 go 3; 1 go 0; 2 go 1; 3 go 2", field)

    def test_from_outside_towards_a_ring(self):
        # Who goes where one of the ring goes is not sound, so what comes from outside ends at a field of its own.
        self.told([3, 5], FULL, "0:a 1:a 2:a 3:a 5:a", "0 go 1; 1 go 2; 2 go 0; 3 go 5; 5 go 6", 3)
        board, own = board_of(FULL, "0:a 1:a 2:a 3:a"), (("go", 1), ("go", 2), ("go", 0), ("go", 0))
        self.assertEqual(("same", 3), sound_error(board, 0, own))
        # The chain of orders that are not sound comes round all the same.
        returns(self, (3, 0, 1, 2), chain, board=board, own=own, place=3)

    def test_sixteen_in_a_line(self):
        pieces = tuple((field, 3) for field in range(16))
        own = (*[("go", field + 1) for field in range(15)], ("stay",))
        returns(self, (15,), chain, board=(WAY, pieces), own=own, place=15)
        longer = (17, (*WAY[1], (15, 16)), ())
        own = tuple(("go", field + 1) for field in range(16))
        for place in (0, 7, 15):
            returns(self, tuple(range(place, 16)), chain, board=(longer, pieces), own=own, place=place)
            returns(self, True, sure, board=(longer, pieces), own=own, place=place)
        back = (24, tuple((field, field + 1) for field in range(23)), ())
        own = tuple(("go", field - 1) for field in range(5, 21))
        pieces = tuple((field, 0) for field in range(5, 21))
        returns(self, tuple(range(15, -1, -1)), chain, board=(back, pieces), own=own, place=15)

    def test_sixteen_round_in_a_ring(self):
        round_chart = (16, (*WAY[1][:0], (0, 1), (0, 15), *WAY[1][1:]), ())
        board = (round_chart, tuple((field, 0) for field in range(16)))
        own = tuple(("go", (field + 1) % 16) for field in range(16))
        for place in (0, 5, 15):
            returns(self, tuple((place + step) % 16 for step in range(16)), chain, board=board, own=own, place=place)
            returns(self, True, sure, board=board, own=own, place=place)

    def test_drawn_boards(self):
        lengths = []
        for board, player, own in drawn_own(73, 600, players=2):
            if error_of_sound(board, player, own) is None:
                for place, item in enumerate(own):
                    if item is not None:
                        told = chain(board, own, place)
                        self.assertEqual(chain_of(board, own, place), told)
                        lengths.append(len(told))
        self.assertLessEqual({1, 2, 3}, set(lengths))


class ThePromise(unittest.TestCase):
    """What is sure and shut is just what holds for all orders of the others, by settled."""

    def compare(self, board, own):
        """What is sure and shut, after comparing it."""
        kept, shut_fields = told_by_all(board, own)
        for place, item in kept.items():
            self.assertEqual(item, sure(board, own, place), (board, own, place))
        for field, item in shut_fields.items():
            self.assertEqual(item, shut(board, own, field), (board, own, field))
        return list(kept.values()), list(shut_fields.values())

    def compare_drawn(self, drawn, most=2500):
        both = ([], [])
        for board, player, own in drawn:
            if error_of_sound(board, player, own) is None and many_orders(board, own) <= most:
                for found, told in zip(both, self.compare(board, own)):
                    found += told
        for found in both:
            self.assertGreater(found.count(True), 80)
            self.assertGreater(found.count(False), 80)

    def test_what_was_found_by_hand(self):
        for why, chart, pieces_told, own_told, _, _ in SURE:
            board = board_of(chart, pieces_told)
            own = own_of(board, 0, own_told)
            if many_orders(board, own) <= 5000:
                with self.subTest(why):
                    self.compare(board, own)

    def test_all_sound_own_orders_of_small_boards(self):
        for board in (THREE, (LINE, ((0, 0), (1, 0), (2, 1), (3, 0))), (YARD,
                                                                        ((0, 0), (1, 1), (2, 0), (3, 0), (4, 1)))):
            for own in itertools.islice(all_own(board, 0), 0, None, 7 if board[0] == YARD else 1):
                if error_of_sound(board, 0, own) is None:
                    self.compare(board, own)

    def test_one_foreign_piece(self):
        self.compare_drawn([(board, player, own) for board, player, own in drawn_own(81, 2000, most_pieces=5, players=2)
                            if own.count(None) == 1])

    def test_two_and_three_foreign_pieces_of_one_player(self):
        self.compare_drawn([(board, player, own) for board, player, own in
                            drawn_own(82, 2500, most_fields=7, most_pieces=6, players=2) if own.count(None) in (2, 3)])

    def test_two_and_three_foreign_pieces_of_two_players(self):
        drawn = list(drawn_own(83, 2500, most_fields=7, most_pieces=6))
        self.compare_drawn([(board, player, own) for board, player, own in drawn if own.count(None) in (2, 3)
                            and len({owner for (_, owner), item in zip(board[1], own) if item is None}) == 2])

    def test_own_rings_and_chains_with_two_others_near(self):
        found = []
        for board, own in drawn_ways(84, 150):
            self.assertIsNone(error_of_sound(board, 0, own))
            found += self.compare(board, own)[0]
        self.assertGreater(found.count(True), 60)
        self.assertGreater(found.count(False), 60)


class MoreAndLess(unittest.TestCase):
    def without(self, items, place):
        return items[:place] + items[place + 1:]

    def test_a_foreign_piece_less(self):
        many = 0
        for board, player, own in drawn_own(91, 400):
            if error_of_sound(board, player, own) is not None:
                continue
            for gone in [place for place, item in enumerate(own) if item is None]:
                less, own_less = (board[0], self.without(board[1], gone)), self.without(own, gone)
                for place in [place for place, item in enumerate(own) if item is not None]:
                    if sure(board, own, place):
                        self.assertTrue(sure(less, own_less, place - (place > gone)), (board, own, place, gone))
                        many += 1
        self.assertGreater(many, 100)

    def test_one_back_more_by_a_piece_that_stayed(self):
        many = 0
        for board, player, own in drawn_own(92, 1500):
            if error_of_sound(board, player, own) is not None:
                continue
            for place in [place for place, item in enumerate(own) if item is not None and sure(board, own, place)]:
                field = board[1][place][0]
                back = ("back", field, own[place][1] if own[place][0] == "go" else field)
                for other in [other for other, item in enumerate(own) if item == ("stay",) and other != place]:
                    if back in all_orders(board, other):
                        more = own[:other] + (back,) + own[other + 1:]
                        self.assertTrue(sure(board, more, place), (board, more, place))
                        many += 1
        self.assertGreater(many, 40)


class GreatBoards(unittest.TestCase):
    def test_sixteen_pieces(self):
        found = []
        for seed in range(16):
            board, own = crowd(seed)
            for place, (field, _) in enumerate(board[1]):
                if own[place] is not None:
                    told = sure(board, own, place)
                    self.assertEqual(is_sure(board, own, field), told, (board, own, place))
                    found.append(told)
            for field in range(24):
                if field not in [taken for taken, _ in board[1]]:
                    self.assertEqual(is_shut(board, own, field), shut(board, own, field), (board, own, field))
        self.assertIn(True, found)
        self.assertIn(False, found)

    def test_eight_backs_against_seven_others(self):
        pieces = tuple((field, 0 if field < 9 else 1) for field in range(16))
        for many in range(9):
            own = (("stay",), *[("back", 0, 0)] * many, *[("stay",)] * (8 - many), *[None] * 7)
            self.assertEqual(many >= 6, sure((FULL, pieces), own, 0))
            own = (("go", 20), *[("back", 0, 20)] * many, *[("stay",)] * (8 - many), *[None] * 7)
            self.assertEqual(many >= 7, sure((FULL, pieces), own, 0))
            self.assertEqual(many >= 6, shut((FULL, pieces), own, 20))
            self.assertFalse(shut((FULL, pieces), own, 21))

    def test_drawn_boards(self):
        for board, player, own in drawn_own(93, 500, most_fields=14, most_pieces=12):
            if error_of_sound(board, player, own) is None:
                for field in Own(board, own).own:
                    place = [taken for taken, _ in board[1]].index(field)
                    returns(self, is_sure(board, own, field), sure, board=board, own=own, place=place)

    def test_what_is_returned_is_plain(self):
        own = (("go", 1), None, None, ("back", 0, 1))
        self.assertTrue(is_plain(chain(FOUR, own, 0)))
        self.assertIs(False, sure(FOUR, own, 0))
        self.assertIs(True, sure(THREE, own[:2] + own[3:], 0))
        self.assertIs(True, shut((LINE, ()), (), 0))


if __name__ == "__main__":
    unittest.main()
