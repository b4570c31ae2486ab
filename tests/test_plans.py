"""What wishes are sure by own orders, and plans [K1], [K2], [K3]."""
import itertools
import random
import unittest

from tests.plain import FOUR, FULL, LINE, THREE, WHEEL, all_orders, renamed
from tests.plainplans import all_wishes, first_plan, is_sure_by_all, is_sure_wish
from tests.plainsure import all_own, drawn_own, error_of_sound, many_orders, orders_that_keep, told_by_all
from tests.situations import board_of, own_of
from tests.support import call_alike, is_plain, returns
from tests.test_surety import SURE
from whateverothers.ends import behind, pushed_out
from whateverothers.ordering import orders_of
from whateverothers.plans import plan, sure_of
from whateverothers.settling import settled


def many_tuples(board, player):
    many = 1
    for place, (_, owner) in enumerate(board[1]):
        many *= len(all_orders(board, place)) if owner == player else 1
    return many


def drawn_wishes(draw, board, player, own):
    """Wishes of which some are sure by own."""
    all_of_them = all_wishes(board)
    is_sound = error_of_sound(board, player, own) is None
    fitting = [wish for wish in all_of_them if is_sound and is_sure_wish(board, own, wish)]
    wishes = draw.sample(fitting, min(len(fitting), draw.choice((1, 2, 2, 3, 4))))
    if not wishes or draw.random() < 0.3:
        wishes.append(draw.choice([wish for wish in all_of_them if wish not in wishes]))
    return tuple(wishes[:4])


class SureOf(unittest.TestCase):
    def told(self, expected, board, own, *wishes):
        returns(self, expected, sure_of, board=board, own=own, wishes=wishes)

    def test_take(self):
        own = own_of(THREE, 0, "0 go 1; 4 back 0 1")
        self.told((True,), THREE, own, ("take", 1))
        self.told((False, False, False, False), THREE, own, ("take", 0), ("take", 2), ("take", 3), ("take", 4))
        self.told((False,), THREE, own_of(THREE, 0, "0 go 1; 4 stay"), ("take", 1))
        self.told((True, False), THREE, own_of(THREE, 0, "0 go 3; 4 stay"), ("take", 3), ("take", 1))

    def test_take_where_an_own_piece_goes_on(self):
        board = board_of(LINE, "0:a 1:a")
        self.told((False, True), board, own_of(board, 0, "0 go 1; 1 go 2"), ("take", 1), ("take", 2))

    def test_hold(self):
        own = own_of(FOUR, 0, "0 back 4 4; 4 stay")
        self.told((False, True), FOUR, own, ("hold", 0), ("hold", 4))
        self.told((False, False, False), FOUR, own, ("hold", 1), ("hold", 2), ("hold", 3))
        self.told((False,), FOUR, own_of(FOUR, 0, "0 stay; 4 stay"), ("hold", 4))
        # Who goes does not hold, though the go cannot be barred.
        board = board_of(LINE, "0:a")
        self.told((False, True), board, own_of(board, 0, "0 go 1"), ("hold", 0), ("take", 1))

    def test_shut(self):
        self.told((True, False), THREE, own_of(THREE, 0, "0 stay; 4 go 2"), ("shut", 2), ("shut", 1))
        self.told((False, True), THREE, own_of(THREE, 0, "0 stay; 4 stay"), ("shut", 2), ("shut", 3))
        self.told((False, False, False), THREE, own_of(THREE, 0, "0 stay; 4 stay"), ("shut", 0), ("shut", 1),
                  ("shut", 4))

    def test_without_pieces(self):
        board = (WHEEL, ((1, 1),))
        self.told((False, False, True, False), board, (None,), ("take", 3), ("hold", 1), ("shut", 3), ("shut", 2))
        self.told((True,), (WHEEL, ()), (), ("shut", 2))
        self.told((False, False), (WHEEL, ()), (), ("take", 2), ("hold", 2))

    def test_in_the_order_of_wishes(self):
        own = own_of(THREE, 0, "0 go 1; 4 back 0 1")
        wishes = (("take", 1), ("hold", 4), ("hold", 0), ("shut", 3))
        for order in itertools.permutations(range(4)):
            self.told(tuple((True, True, False, True)[at] for at in order), THREE, own, *[wishes[at] for at in order])

    def test_what_was_found_by_hand(self):
        for why, chart, pieces_told, own_told, sure_fields, shut_fields in SURE:
            board = board_of(chart, pieces_told)
            own = own_of(board, 0, own_told)
            orders = {board[1][place][0]: item for place, item in enumerate(own) if item is not None}
            with self.subTest(why):
                for field in range(chart[0]):
                    goers = [start for start, order in orders.items() if order == ("go", field)]
                    takes = field not in orders and goers != [] and goers[0] in sure_fields
                    holds = field in sure_fields and orders[field][0] != "go"
                    self.told((takes, holds, field in shut_fields), board, own, ("take", field), ("hold", field),
                              ("shut", field))

    def test_against_all_orders_of_the_others(self):
        seen = set()
        drawn = [*drawn_own(141, 250, most_fields=6, most_pieces=5), *drawn_own(142, 250, most_fields=7, players=2)]
        for board, player, own in drawn:
            if error_of_sound(board, player, own) is None and many_orders(board, own) <= 1200:
                told = told_by_all(board, own)
                for wish in all_wishes(board):
                    expected = is_sure_by_all(board, own, wish, told)
                    self.assertEqual((expected,), sure_of(board, own, (wish,)), (board, own, wish))
                    self.assertEqual(expected, is_sure_wish(board, own, wish))
                    seen.add((wish[0], expected))
        self.assertEqual(6, len(seen))

    def test_all_own_of_a_small_board(self):
        board = (LINE, ((0, 0), (1, 0), (3, 1)))
        for own in all_own(board, 0):
            if error_of_sound(board, 0, own) is None:
                wishes = all_wishes(board)
                for at in range(0, len(wishes), 4):
                    self.told(tuple(is_sure_by_all(board, own, wish) for wish in wishes[at:at + 4]), board, own,
                              *wishes[at:at + 4])


class ByHand(unittest.TestCase):
    def planned(self, own_told, board, *wishes, player=0):
        expected = None if own_told is None else own_of(board, player, own_told)
        returns(self, expected, plan, board=board, player=player, wishes=wishes)

    def test_one_wish(self):
        self.planned("0 go 1; 4 back 0 1", THREE, ("take", 1))
        self.planned("0 stay; 4 stay", THREE, ("hold", 4))
        self.planned("0 back 4 4; 4 stay", FOUR, ("hold", 4))
        self.planned("0 stay; 4 go 2", THREE, ("shut", 2))
        self.planned("0 stay; 4 stay", THREE, ("shut", 3))
        self.planned("0 stay; 4 go 3", THREE, ("take", 3))

    def test_none(self):
        self.planned(None, FOUR, ("take", 1))
        self.planned(None, THREE, ("take", 0))
        self.planned(None, THREE, ("hold", 1))
        self.planned(None, THREE, ("hold", 2))
        self.planned(None, THREE, ("shut", 0))
        self.planned(None, THREE, ("shut", 1))
        self.planned(None, THREE, ("take", 1), ("hold", 0), ("hold", 4))
        self.planned(None, THREE, ("shut", 2), ("take", 1))

    def test_several_wishes(self):
        self.planned("0 back 4 1; 4 go 1", THREE, ("take", 1), ("hold", 0))
        self.planned("0 go 1; 4 back 0 1", THREE, ("take", 1), ("hold", 4))
        self.planned("0 go 1; 4 back 0 1", THREE, ("hold", 4), ("shut", 3), ("take", 1))
        self.planned("0 stay; 4 go 2", THREE, ("shut", 2), ("hold", 0))
        self.planned("0 go 3; 4 go 2", THREE, ("shut", 2), ("take", 3))

    def test_a_player_without_a_piece(self):
        self.planned("", (LINE, ((0, 1),)), ("shut", 3), ("shut", 2), player=5)
        self.planned(None, (LINE, ((0, 1),)), ("shut", 3), ("shut", 1), player=5)
        self.planned(None, THREE, ("shut", 3), player=5)
        self.planned(None, THREE, ("take", 3), player=5)
        self.planned(None, THREE, ("hold", 0), player=5)
        returns(self, (), plan, board=(WHEEL, ()), player=0, wishes=(("shut", 0), ("shut", 1), ("shut", 2),
                                                                     ("shut", 3)))

    def test_the_other_player(self):
        self.planned("1 stay", (WHEEL, ((0, 0), (1, 1))), ("hold", 1), player=1)
        self.planned("1 go 2", (WHEEL, ((0, 0), (1, 1))), ("take", 2), player=1)
        self.planned(None, THREE, ("hold", 1), player=1)

    def test_what_is_returned_is_plain(self):
        self.assertTrue(is_plain(plan(THREE, 0, (("take", 1),))))
        self.assertTrue(is_plain(sure_of(THREE, (None, ("stay",), None), (("take", 1),))))


class AgainstAll(unittest.TestCase):
    def test_drawn_boards(self):
        draw = random.Random(143)
        places = []
        for board, player, own in [*drawn_own(144, 300, most_fields=7, most_pieces=7), *drawn_own(145, 200, players=2)]:
            if 8 <= many_tuples(board, player) <= 1500:
                wishes = drawn_wishes(draw, board, player, own)
                expected, at = first_plan(board, player, wishes)
                self.assertEqual(expected, plan(board, player, wishes), (board, player, wishes))
                places.append(at)
        self.assertGreater(len([at for at in places if at is not None]), 40)
        self.assertGreater(places.count(None), 20)
        self.assertGreater(len([at for at in places if at is not None and at > 20]), 3)

    def test_behind_many_hundreds(self):
        board = board_of((7, tuple(pair for pair in FULL[1] if pair[1] < 7), ()), "0:a 1:a 2:b 5:a")
        for own_told, wishes in (("0 go 6; 1 stay; 5 back 0 6", (("take", 6), ("hold", 1), ("hold", 5))),
                                 ("0 stay; 1 go 3; 5 go 4", (("hold", 0), ("shut", 3), ("shut", 4))),
                                 ("0 go 2; 1 go 6; 5 back 0 2", (("take", 2), ("shut", 6))),
                                 ("0 stay; 1 back 5 4; 5 go 4", (("take", 4), ("hold", 0), ("hold", 1)))):
            with self.subTest(wishes):
                expected, at = first_plan(board, 0, wishes)
                self.assertEqual(own_of(board, 0, own_told), expected)
                returns(self, expected, plan, board=board, player=0, wishes=wishes)
                self.assertGreater(at, 60)
        self.assertGreater(first_plan(board, 0, (("take", 6), ("hold", 1), ("hold", 5)))[1], 1500)
        self.assertGreater(many_tuples(board, 0), 4000)

    def test_wishes_in_another_order_and_a_wish_less(self):
        draw = random.Random(146)
        found = 0
        for board, player, own in drawn_own(147, 150, most_fields=7, most_pieces=6):
            if many_tuples(board, player) > 20000:
                continue
            wishes = drawn_wishes(draw, board, player, own)
            told = plan(board, player, wishes)
            for order in itertools.permutations(wishes):
                self.assertEqual(told, plan(board, player, order))
            for at in range(len(wishes) if len(wishes) > 1 else 0):
                less = plan(board, player, wishes[:at] + wishes[at + 1:])
                if told is not None:
                    self.assertLessEqual(self.rank(board, less), self.rank(board, told))
                    found += 1
        self.assertGreater(found, 40)

    def rank(self, board, own):
        return [orders_of(board, place).index(item) for place, item in enumerate(own) if item is not None]

    def test_all_come_about_at_once(self):
        many = 0
        draw = random.Random(148)
        for board, player, drawn in drawn_own(149, 150, most_fields=6, most_pieces=5, players=2):
            wishes = drawn_wishes(draw, board, player, drawn)
            own = plan(board, player, wishes) if many_tuples(board, player) <= 20000 else None
            if own is not None and many_orders(board, own) <= 400:
                self.assertIsNone(error_of_sound(board, player, own))
                for orders in orders_that_keep(board, own):
                    self.check_all(board, player, own, orders, wishes)
                    many += 1
        self.assertGreater(many, 200)

    def check_all(self, board, player, own, orders, wishes):
        told, pushed = settled(board, orders), pushed_out(board, orders)
        fields = [field for field, _ in board[1]]
        stand = dict(behind(board, orders, (None,) * len(pushed)))
        for word, field in wishes:
            if word == "take":
                self.assertTrue(told[own.index(("go", field))])
                self.assertEqual(player, stand[field])
            elif word == "hold":
                self.assertNotIn(fields.index(field), [place for place, _ in pushed])
                self.assertEqual(player, stand[field])
            else:
                self.assertEqual(player, stand.get(field, player))

    def test_foreign_players_called_otherwise(self):
        for board in (THREE, FOUR):
            for wish in all_wishes(board):
                told = plan(board, 0, (wish,))
                for names in ((0, 5), (0, 2)):
                    self.assertEqual(told, plan(renamed(board, names), 0, (wish,)))

    def test_calls(self):
        draw = random.Random(150)
        for board, player, own in drawn_own(151, 40, most_fields=7, most_pieces=6):
            wishes = tuple(draw.sample(all_wishes(board), draw.randint(1, 4)))
            call_alike(self, plan, board=board, player=player, wishes=wishes)
            if error_of_sound(board, player, own) is None:
                call_alike(self, sure_of, board=board, own=own, wishes=wishes)


class TooMany(unittest.TestCase):
    def refused(self, board, player, *wishes):
        self.assertEqual(("raised", "TooMany", "{'limit': 20000}"),
                         call_alike(self, plan, board=board, player=player, wishes=wishes))

    def test_a_crowd(self):
        board = (WHEEL, tuple((field, 0) for field in range(5)))
        for wish in all_wishes(board):
            self.refused(board, 0, wish)
        self.refused(board, 0, ("take", 0), ("hold", 1), ("shut", 2), ("take", 2))
        returns(self, None, plan, board=board, player=1, wishes=(("hold", 0),))

    def test_just_too_many_and_just_not(self):
        over = (9, tuple(pair for pair in FULL[1] if pair[1] < 9 and pair not in
                         ((0, 7), (1, 8), (2, 3), (2, 7), (2, 8), (3, 5), (3, 8), (4, 5), (4, 8), (5, 6), (6, 7),
                          (6, 8),
                          (7, 8))), ())
        just = (8, tuple(pair for pair in FULL[1] if pair[1] < 8 and pair not in
                         ((0, 3), (2, 3), (2, 4), (2, 6), (2, 7), (4, 6), (5, 6), (5, 7))), ())
        under = (10, ((0, 1), (0, 2), (0, 4), (1, 2), (1, 4), (1, 7), (1, 8), (2, 4), (3, 4), (4, 5), (4, 7), (4, 8),
                      (5, 6),
                      (5, 8), (8, 9)), ())
        for chart, pieces_told, many in ((over, "0:b 1:b 2:a 4:a 5:a 6:b", 20088),
                                         (just, "0:b 1:a 2:b 3:b 5:a 7:a", 20000),
                                         (under, "0:a 1:a 4:b 7:b 8:a 9:a", 19950)):
            board = board_of(chart, pieces_told)
            self.assertEqual(many, many_tuples(board, 0))
            for wish in all_wishes(board):
                if many > 20000:
                    self.refused(board, 0, wish)
                else:
                    told = plan(board, 0, (wish,))
                    self.assertTrue(told is None or sure_of(board, told, (wish,)) == (True,))

    def test_sure_of_is_never_too_much(self):
        board = (FULL, tuple((field, 0) for field in range(16)))
        own = (("go", 20), *[("back", 0, 20)] * 15)
        returns(self, (True, True, False), sure_of, board=board, own=own,
                wishes=(("take", 20), ("hold", 3), ("take", 3)))

    def test_many_tuples_with_many_foreign_pieces(self):
        # Nothing of this can be had, so all tuples are gone through.
        pieces = ((0, 0), (1, 0), *[(field, 1) for field in range(2, 9)])
        roads = tuple(pair for pair in FULL[1] if pair[1] < 12)
        board = ((12, roads, ()), pieces)
        self.assertGreater(many_tuples(board, 0), 8000)
        self.assertLessEqual(many_tuples(board, 0), 20000)
        for wish in (("take", 2), ("take", 9), ("hold", 0), ("shut", 10)):
            returns(self, None, plan, board=board, player=0, wishes=(wish,))


if __name__ == "__main__":
    unittest.main()
