"""Whole games [F1], [F2], [F3], [F5]."""
import copy
import random
import unittest
from unittest import mock

from tests.plain import FULL, THREE, WHEEL, error_of_board, error_of_orders
from tests.plaingames import (ATTRIBUTES, DEEDS, GAMES, LINE, PUSH, all_news, all_outs, drawn_deed, drawn_log, game_of,
                              new_stand, refusal, stand_behind, stand_of, stand_with, wants)
from tests.support import any_values, call_alike, exchanged, is_plain, outcome, raises, returns, shown
from whateverothers.boards import board_error
from whateverothers.ends import exits
from whateverothers.errors import BadBoard, BadOrders, NotNow, OrderError, TooManyEdits, Unfit
from whateverothers.games import Game
from whateverothers.ordering import orders_error


def stays(board):
    return (("stay",),) * len(board[1])


def everything(game):
    """All that a game tells, as one string."""
    return shown((stand_of(game), [game.wanted(player) for player in range(6)]))


def in_each_phase():
    """A game in each of the phases, made anew."""
    log = (("go_on", PUSH), ("withdraw", (2,)), ("go_on", (("go", 0), ("stay",), ("stay",))))
    games = {"orders": Game(WHEEL, THREE[1]), "outs": game_of(WHEEL, THREE[1], *log[:1]),
             "builds": game_of(WHEEL, THREE[1], *log),
             "ended": game_of(LINE, ((0, 3),), ("go_on", (("go", 1),)), ("go_on", (("go", 2),)))}
    assert all(game.phase == phase for phase, game in games.items())
    return games


class Told(unittest.TestCase):
    def check(self, game, **told):
        for name, value in told.items():
            self.assertEqual(shown(value), shown(getattr(game, name)), name)

    def refused(self, game, word, argument, name, **fields):
        """The deed is refused whichever way it is called, twice, and nothing changes by it."""
        before = everything(game)
        kept = copy.deepcopy(argument)
        parameter = {"go_on": "orders", "withdraw": "outs", "build": "news"}[word]
        for _ in range(2):
            expected = ("raised", name, shown(fields))
            self.assertEqual(expected, outcome(getattr(game, word), argument))
            self.assertEqual(expected, outcome(getattr(game, word), **{parameter: argument}))
        self.assertEqual(before, everything(game))
        self.assertEqual(shown(kept), shown(argument))


class New(Told):
    def test_a_new_game(self):
        game = Game(WHEEL, THREE[1])
        self.check(game, board=THREE, phase="orders", year=0, season=0, holders=(0, None), winner=None, orders=None,
                   log=())
        self.assertEqual([-1, -1, 0, 0, 0, 0], [game.wanted(player) for player in range(6)])

    def test_by_names(self):
        for game in (Game(chart=WHEEL, pieces=THREE[1]), Game(pieces=THREE[1], chart=WHEEL)):
            self.check(game, board=THREE, holders=(0, None))

    def test_without_pieces_and_without_centres(self):
        self.check(Game(WHEEL, ()), board=(WHEEL, ()), phase="orders", holders=(None, None), winner=None)
        self.check(Game((1, (), ()), ((0, 5),)), board=((1, (), ()), ((0, 5),)), phase="orders", holders=(), winner=None)

    def test_holders_are_told_in_the_order_of_centres(self):
        self.check(Game(FULL, ((1, 4), (3, 2), (23, 4))), holders=(None, 4, None, 2, *[None] * 19, 4), winner=None)

    def test_who_holds_all_centres_at_first_has_not_won_yet(self):
        game = Game(LINE, ((0, 1), (2, 1)))
        self.check(game, phase="orders", holders=(1, 1), winner=None)
        self.assertEqual("orders", game.go_on(stays(game.board)))
        self.check(game, winner=None)
        self.assertEqual("ended", game.go_on(stays(game.board)))
        self.check(game, winner=1)

    def test_what_the_attributes_tell_cannot_change(self):
        for game in in_each_phase().values():
            for name in ATTRIBUTES:
                self.assertTrue(is_plain(getattr(game, name)), name)

    def test_bad_boards(self):
        boards = [(WHEEL, [(0, 0)]), (WHEEL, ((0, 6),)), (WHEEL, ((5, 0),)), (WHEEL, ((1, 0), (0, 0))), ((0, (), ()), ()),
                  ((25, (), ()), ()), ([5, (), ()], ()), ((3, ((1, 0),), ()), ()), ((3, (), (2, 1)), ()),
                  (FULL, tuple((field, 0) for field in range(17))), (WHEEL, ((0, True),)), (WHEEL, ((0, 0), (0, 1))),
                  ((3, (), (True,)), ()), (WHEEL, None), (None, ()), (THREE, ()), (WHEEL, ((0,),))]
        for chart, pieces in boards:
            error = board_error((chart, pieces))
            self.assertIsNotNone(error)
            expected = ("raised", "BadBoard", shown({"error": error}))
            self.assertEqual(expected, call_alike(self, Game, chart=chart, pieces=pieces))

    def test_charts_and_pieces_of_all_kinds(self):
        for value in any_values():
            for chart, pieces in ((value, ()), (WHEEL, value), (value, value), (value, THREE[1])):
                error = error_of_board((chart, pieces))
                if error is not None:
                    with self.assertRaises(BadBoard) as caught:
                        Game(chart, pieces)
                    self.assertEqual(shown(error), shown(caught.exception.error))

    def test_boards_with_any_part_exchanged(self):
        chart, pieces = (3, ((0, 1),), (1,)), ((0, 0), (2, 1))
        for value in exchanged((chart, pieces), [None, True, 0, 1, 2, 7, (), (0,), (1, 2), [1]]):
            if isinstance(value, tuple) and len(value) == 2:
                error = error_of_board(value)
                if error is None:
                    self.check(Game(*value), board=value, log=())
                else:
                    self.assertEqual(("raised", "BadBoard", shown({"error": error})), outcome(Game, *value))


class Phases(Told):
    def test_what_does_not_fit_the_phase(self):
        fitting = {"orders": "go_on", "outs": "withdraw", "builds": "build", "ended": None}
        arguments = [(), PUSH, (2,), (None,), ((4, 0),), stays(THREE), (("stay",),), *any_values()]
        for phase, game in in_each_phase().items():
            for word in DEEDS:
                for argument in arguments if word != fitting[phase] else []:
                    self.refused(game, word, argument, "NotNow", phase=phase)

    def test_phases_behind_deeds(self):
        games = in_each_phase()
        self.assertEqual("outs", games["orders"].go_on(orders=PUSH))
        self.assertEqual("orders", games["outs"].withdraw(outs=(2,)))
        self.assertEqual("orders", games["builds"].build(news=((4, 0),)))
        self.assertEqual("orders", games["ended"].undo())

    def test_not_now_goes_ahead_of_all_else(self):
        with mock.patch("whateverothers.games.MAX_EDITS", 0):
            for phase, game in (("orders", Game(WHEEL, THREE[1])),):
                self.refused(game, "withdraw", "any", "NotNow", phase=phase)
                self.refused(game, "build", "any", "NotNow", phase=phase)


class Orders(Told):
    def test_nobody_is_pushed_out(self):
        game = Game(WHEEL, THREE[1])
        orders = (("go", 3), ("go", 2), ("stay",))
        self.assertEqual("orders", game.go_on(orders))
        self.check(game, board=(WHEEL, ((2, 1), (3, 0), (4, 0))), phase="orders", year=0, season=1, holders=(0, None),
                   winner=None, orders=None, log=(("go_on", orders),))

    def test_one_is_pushed_out(self):
        game = Game(WHEEL, THREE[1])
        self.assertEqual("outs", game.go_on(PUSH))
        self.check(game, board=THREE, phase="outs", year=0, season=0, holders=(0, None), winner=None, orders=PUSH,
                   log=(("go_on", PUSH),))

    def test_loose_rings_go(self):
        game = Game(WHEEL, THREE[1])
        game.go_on((("go", 1), ("go", 4), ("go", 0)))
        self.check(game, board=(WHEEL, ((0, 0), (1, 0), (4, 1))))

    def test_bad_orders(self):
        game = Game(WHEEL, THREE[1])
        for orders in (stays(THREE)[:2], (*stays(THREE), ("stay",)), list(stays(THREE)), (("go", 2), *stays(THREE)[:2]),
                       (("stay",), ("go", 3), ("stay",)), (("stay",), ("stay",), ("back", 4, 4)), (None,) * 3,
                       (("stay",), ["stay"], ("stay",)), (("go", True), *stays(THREE)[:2]), ()):
            error = orders_error(THREE, orders)
            self.assertIsNotNone(error)
            self.refused(game, "go_on", orders, "BadOrders", error=error)

    def test_values_of_all_kinds(self):
        game = Game(WHEEL, THREE[1])
        for value in any_values():
            self.refused(game, "go_on", value, "BadOrders", error=error_of_orders(THREE, value))
            spoiled = (value, ("stay",), ("stay",))
            if value not in (("stay",), ("go", 1), ("back", 1, 1)):
                self.refused(game, "go_on", spoiled, "BadOrders", error=("order", 0))

    def test_games_are_no_orders_outs_or_news(self):
        for phase, game in in_each_phase().items():
            for other in in_each_phase().values():
                for word in DEEDS:
                    with self.assertRaises(OrderError):
                        getattr(game, word)(other)
            self.assertEqual(phase, game.phase)

    def test_orders_are_those_of_the_board_as_it_is(self):
        game = Game(WHEEL, THREE[1])
        game.go_on((("go", 3), ("go", 2), ("stay",)))
        self.refused(game, "go_on", PUSH, "BadOrders", error=("order", 2))
        self.assertEqual("builds", game.go_on((("go", 1), ("back", 4, 4), ("back", 3, 3))))

    def test_no_pieces(self):
        game = Game(WHEEL, ())
        for year in range(30):
            self.check(game, phase="orders", year=year, season=0)
            self.assertEqual("orders", game.go_on(()))
            self.refused(game, "go_on", (("stay",),), "BadOrders", error="form")
            self.assertEqual("ended" if year == 29 else "orders", game.go_on(()))
        self.check(game, winner=None, holders=(None, None), year=29, season=1)


class Outs(Told):
    def setUp(self):
        self.game = game_of(WHEEL, THREE[1], ("go_on", PUSH))

    def test_a_field(self):
        self.assertEqual("orders", self.game.withdraw((2,)))
        self.check(self.game, board=(WHEEL, ((1, 0), (2, 1), (4, 0))), season=1, year=0, orders=None,
                   holders=(0, None), log=(("go_on", PUSH), ("withdraw", (2,))))

    def test_none(self):
        self.assertEqual("orders", self.game.withdraw((None,)))
        self.check(self.game, board=(WHEEL, ((1, 0), (4, 0))), season=1, orders=None,
                   log=(("go_on", PUSH), ("withdraw", (None,))))

    def test_unfit_ones(self):
        for outs in ((), (2, 2), (2, None), (None, None), (0,), (1,), (3,), (4,), (5,), (-1,), (True,), (False,), [2], [None],
                     ((2,),), ("2",), None, 2, "2", {}, {0: 2}, ([2],)):
            self.refused(self.game, "withdraw", outs, "Unfit")

    def test_values_of_all_kinds(self):
        for value in any_values():
            self.refused(self.game, "withdraw", value, "Unfit")
            if value is not None and value != 2:
                self.refused(self.game, "withdraw", (value,), "Unfit")

    def test_two_that_choose_one_field_are_gone(self):
        chart = (7, ((0, 1), (0, 4), (0, 5), (2, 3), (2, 4), (2, 6)), ())
        pieces = ((0, 0), (1, 1), (2, 0), (3, 1), (5, 1), (6, 1))
        orders = (("stay",), ("go", 0), ("stay",), ("go", 2), ("back", 1, 0), ("back", 3, 2))
        for outs, left in (((4, 4), []), ((4, None), [(4, 0)]), ((None, 4), [(4, 0)]), ((None, None), [])):
            game = game_of(chart, pieces, ("go_on", orders))
            for wrong in ((4,), (4, 4, 4), (4, 1), (4, True), [4, 4], (4, (4,))):
                self.refused(game, "withdraw", wrong, "Unfit")
            self.assertEqual("orders", game.withdraw(outs))
            self.check(game, board=(chart, tuple(sorted([(0, 1), (2, 1), (5, 1), (6, 1), *left]))))

    def test_in_round_one_the_year_ends_behind_it(self):
        game = game_of(WHEEL, THREE[1], ("go_on", stays(THREE)), ("go_on", PUSH))
        self.check(game, phase="outs", year=0, season=1, board=THREE, holders=(0, None), orders=PUSH)
        self.assertEqual("builds", game.withdraw((2,)))
        self.check(game, phase="builds", year=0, season=1, board=(WHEEL, ((1, 0), (2, 1), (4, 0))), holders=(0, 1),
                   orders=None)
        game = game_of(WHEEL, ((0, 0), (1, 1), (4, 0)), ("go_on", stays(THREE)), ("go_on", PUSH))
        self.assertEqual("builds", game.withdraw((None,)))
        self.check(game, holders=(0, None))

    def test_it_wins_where_it_withdraws(self):
        chart = (*WHEEL[:2], (2,))
        game = game_of(chart, THREE[1], ("go_on", stays(THREE)), ("go_on", PUSH))
        self.check(game, phase="outs", winner=None, holders=(None,))
        self.assertEqual("ended", game.withdraw((2,)))
        self.check(game, phase="ended", winner=1, holders=(1,), year=0, season=1)


class Builds(Told):
    def build_told(self, chart, pieces, right, wrong, phase="orders"):
        """pieces all stay for a year; then each of right is done, and each of wrong refused."""
        board = (chart, pieces)
        log = (("go_on", stays(board)), ("go_on", stays(board)))
        for news, left in right:
            game = game_of(chart, pieces, *log)
            self.check(game, phase="builds", year=0, season=1, board=board)
            for unfit in wrong:
                self.refused(game, "build", unfit, "Unfit")
            self.assertEqual(phase, game.build(news))
            self.check(game, phase=phase, year=1, season=0, board=(chart, left), log=(*log, ("build", news)), orders=None)

    def test_one_has_to_be_taken_off(self):
        chart = (4, ((0, 1), (2, 3)), (0, 3))
        self.build_told(chart, ((0, 0), (1, 0), (3, 1)), [(((0, 0),), ((1, 0), (3, 1))), (((1, 0),), ((0, 0), (3, 1)))],
                        [(), ((0, 0), (1, 0)), ((3, 1),), ((0, 1),), ((2, 0),), ((0, 0), (3, 1)), ((0, 0), (0, 0)),
                         [(0, 0)], ([0, 0],), ((False, 0),), ((0, False),), ((1, False),), ((True, 0),), ((1, 0), (0, 0)),
                         ((0,),), ((0, 0, 0),), (0, 0), None, True, "0:a", {}, {(0, 0): 0}, ((4, 0),), ((-1, 0),),
                         ((0, 6),), ((0, -1),), (None,), ((None, None),)])

    def test_two_of_three_have_to_be_taken_off(self):
        chart = (6, (), (0, 5))
        self.build_told(chart, ((0, 2), (1, 2), (2, 2), (5, 1)),
                        [(((0, 2), (1, 2)), ((2, 2), (5, 1))), (((0, 2), (2, 2)), ((1, 2), (5, 1))),
                         (((1, 2), (2, 2)), ((0, 2), (5, 1)))],
                        [(), ((0, 2),), ((1, 2),), ((0, 2), (1, 2), (2, 2)), ((1, 2), (0, 2)), ((1, 2), (1, 2)),
                         ((1, 2), (5, 1)), ((0, 2), (3, 2)), ((0, 2), (1, 1))])

    def test_who_has_no_centres_has_to_take_off_all(self):
        chart = (6, (), (0, 5))
        self.build_told(chart, ((1, 2), (2, 2), (5, 1)), [(((1, 2), (2, 2)), ((5, 1),))],
                        [(), ((1, 2),), ((2, 2),), ((1, 2), (2, 2), (5, 1))])
        self.build_told((3, (), ()), ((0, 0), (1, 1), (2, 2)), [(((0, 0), (1, 1), (2, 2)), ())],
                        [(), ((0, 0), (1, 1)), ((0, 0), (2, 2)), ((1, 1), (2, 2))])

    def led_apart(self, chart, pieces, goal):
        """A game in which the pieces go from where they are to goal in the first year; then builds are waited for."""
        orders = tuple(("go", goal[field]) if field in goal else ("stay",) for field, _ in pieces)
        game = game_of(chart, pieces, ("go_on", orders))
        game.go_on(stays(game.board))
        return game

    def test_one_may_be_built(self):
        # The piece of 0 leaves its centre, which it still holds, for another one.
        chart = (6, ((0, 1), (1, 2)), (0, 1, 3, 4, 5))
        pieces = ((0, 0), (3, 1), (4, 2), (5, 1))
        for news, left in (((), ((1, 0), (3, 1), (4, 2), (5, 1))), (((0, 0),), ((0, 0), (1, 0), (3, 1), (4, 2), (5, 1)))):
            game = self.led_apart(chart, pieces, {0: 1})
            self.check(game, phase="builds", holders=(0, 0, 1, 2, 1))
            self.assertEqual([1, 0, 0, 0, 0, 0], [game.wanted(player) for player in range(6)])
            for unfit in (((0, 1),), ((1, 0),), ((2, 0),), ((0, 0), (1, 0)), ((0, 0), (0, 0)), ((3, 1),), ((0, 0), (3, 1)),
                          [], [(0, 0)], ([0, 0],), ((False, 0),), ((0, False),), None, ((3, 0),), ((4, 0),), ((0, 2),)):
                self.refused(game, "build", unfit, "Unfit")
            self.assertEqual("orders", game.build(news))
            self.check(game, board=(chart, left), year=1, season=0, holders=(0, 0, 1, 2, 1))

    def test_more_are_free_than_may_be_built(self):
        # The piece of 0 goes from one of its centres to another one, and on to a field that is none.
        chart = (9, ((0, 1), (1, 2), (2, 3)), (0, 2, 5, 6, 7))
        pieces = ((0, 0), (5, 1), (6, 2), (7, 3))
        game = self.led_apart(chart, pieces, {0: 1})
        game.go_on((("go", 2), *[("stay",)] * 3))
        self.assertEqual("builds", game.go_on(stays(game.board)))
        game.build(())
        game.go_on((("go", 3), *[("stay",)] * 3))
        self.assertEqual("builds", game.go_on(stays(game.board)))
        self.check(game, holders=(0, 0, 1, 2, 3), board=(chart, ((3, 0), *pieces[1:])))
        self.assertEqual(1, game.wanted(0))
        for news in ((), ((0, 0),), ((2, 0),)):
            self.assertEqual("orders", game.build(news))
            self.assertEqual(tuple(sorted((*news, (3, 0), *pieces[1:]))), game.board[1])
            game.undo()
        for unfit in (((0, 0), (2, 0)), ((3, 0),), ((1, 0),), ((0, 1),)):
            self.refused(game, "build", unfit, "Unfit")

    def test_some_of_several_may_be_built(self):
        # 0 has been in three centres, and one piece of it is gone; so it wants two.
        chart = (12, ((0, 1), (2, 3), (4, 5)), (0, 1, 2, 3, 6, 7, 8, 9, 10))
        pieces = ((0, 0), (2, 0), (6, 1), (7, 2), (8, 3), (9, 4), (10, 5))
        game = self.led_apart(chart, pieces, {0: 1, 2: 3})
        self.check(game, phase="builds", holders=(0, 0, 0, 0, 1, 2, 3, 4, 5))
        self.assertEqual(2, game.wanted(0))
        right = [(), ((0, 0),), ((2, 0),), ((0, 0), (2, 0))]
        for news in right:
            self.assertEqual("orders", game.build(news))
            self.assertEqual(tuple(sorted((*news, (1, 0), (3, 0), *pieces[2:]))), game.board[1])
            self.assertEqual("builds", game.undo())
        for unfit in (((1, 0),), ((0, 0), (1, 0)), ((2, 0), (0, 0)), ((0, 0), (2, 0), (4, 0)), ((4, 0),), ((6, 0),)):
            self.refused(game, "build", unfit, "Unfit")

    def test_who_comes_to_stand_on_a_centre_of_another_player_wants_more(self):
        chart = (9, ((0, 1), (0, 2)), (0, 1, 3, 4, 5, 6, 7))
        pieces = ((0, 0), (2, 1), (3, 2), (4, 3), (5, 4), (6, 5), (7, 5))
        game = game_of(chart, pieces, ("go_on", (("go", 1), *[("stay",)] * 6)))
        self.assertEqual("orders", game.go_on((("stay",), ("go", 0), *[("stay",)] * 5)))
        self.check(game, phase="orders", holders=(1, 0, 2, 3, 4, 5, 5), year=1)

    def test_built_and_taken_off_at_once(self):
        chart = (9, ((0, 1), (7, 8)), (0, 1, 3, 4, 5, 6))
        pieces = ((0, 0), (2, 1), (3, 1), (4, 2), (5, 3), (6, 4))
        game = self.led_apart(chart, pieces, {0: 1})
        self.check(game, phase="builds", holders=(0, 0, 1, 2, 3, 4))
        self.assertEqual([1, -1, 0, 0, 0, 0], [game.wanted(player) for player in range(6)])
        for news in (((0, 0), (2, 1)), ((0, 0), (3, 1)), ((2, 1),), ((3, 1),)):
            self.assertEqual("orders", game.build(news))
            left = set(((1, 0), *pieces[1:])) ^ set(news)
            self.assertEqual(tuple(sorted(left)), game.board[1])
            game.undo()
        for unfit in ((), ((0, 0),), ((2, 1), (3, 1)), ((0, 0), (2, 1), (3, 1)), ((2, 1), (0, 0)), ((0, 0), (4, 2)),
                      ((0, 0), (1, 0), (2, 1)), ((2, 0), (2, 1))):
            self.refused(game, "build", unfit, "Unfit")

    def test_values_of_all_kinds(self):
        game = in_each_phase()["builds"]
        right = [shown(news) for news in (((0, 0),), ((4, 0),))]
        for value in any_values():
            for news in (value, (value,), ((value, 0),), ((4, value),), (value, (4, 0)), ((0, 0), value)):
                if shown(news) not in right:
                    self.refused(game, "build", news, "Unfit")

    def test_sixteen_pieces_stand(self):
        # Each of two players has left two centres of theirs: they want two each, and fourteen pieces stand.
        chart = (24, ((0, 20), (1, 21), (2, 22), (3, 23)), tuple(range(24)))
        pieces = tuple((field, (0, 0, 1, 1)[field] if field < 4 else 2 + field % 4) for field in range(14))
        game = self.led_apart(chart, pieces, {0: 20, 1: 21, 2: 22, 3: 23})
        self.check(game, phase="builds")
        self.assertEqual([2, 2, 0, 0, 0, 0], [game.wanted(player) for player in range(6)])
        for news in ((), ((0, 0),), ((0, 0), (1, 0)), ((0, 0), (2, 1)), ((2, 1), (3, 1)), ((1, 0), (3, 1))):
            self.assertEqual("orders", game.build(news))
            self.assertEqual(14 + len(news), len(game.board[1]))
            game.undo()
        for unfit in (((0, 0), (1, 0), (2, 1)), ((0, 0), (2, 1), (3, 1)), ((0, 0), (1, 0), (2, 1), (3, 1))):
            self.refused(game, "build", unfit, "Unfit")

    def test_sixteen_pieces_and_one_has_to_be_taken_off(self):
        # 0 wants two, 1 has one too many: one may be built for the one that is taken off.
        chart = (24, ((0, 20), (1, 21)), (0, 1, *range(3, 16), 20, 21))
        pieces = tuple((field, 0 if field < 2 else 1 if field < 4 else 2 + field % 4) for field in range(16))
        game = self.led_apart(chart, pieces, {0: 20, 1: 21})
        self.assertEqual([2, -1, 0, 0, 0, 0], [game.wanted(player) for player in range(6)])
        for news in (((2, 1),), ((3, 1),), ((0, 0), (2, 1)), ((1, 0), (3, 1))):
            self.assertEqual("orders", game.build(news))
            self.assertEqual(14 + len(news), len(game.board[1]))
            game.undo()
        for unfit in ((), ((0, 0),), ((0, 0), (1, 0), (2, 1)), ((2, 1), (3, 1))):
            self.refused(game, "build", unfit, "Unfit")

    def test_no_year_without_wants_is_waited_for(self):
        game = game_of(LINE, ((0, 3), (2, 5)), ("go_on", stays(LINE[:1] + (((0, 3), (2, 5)),))))
        self.assertEqual("orders", game.go_on((("stay",), ("stay",))))
        self.check(game, year=1, season=0, phase="orders")


class Years(Told):
    def test_centres_are_taken_behind_round_one_alone(self):
        chart = (5, ((0, 1), (1, 2), (3, 4)), (0, 1, 2, 3, 4))
        game = game_of(chart, ((0, 0), (3, 1)), ("go_on", (("go", 1), ("stay",))))
        self.check(game, holders=(0, None, None, 1, None), season=1)
        self.assertEqual("builds", game.go_on((("go", 2), ("stay",))))
        # 1, where the piece was behind round 0 alone, is held by nobody.
        self.check(game, holders=(0, None, 0, 1, None), season=1, year=0)

    def test_holders_stay_until_another_one_stands_there(self):
        chart = (6, ((0, 1), (0, 3), (1, 2)), (0, 2, 4, 5))
        game = game_of(chart, ((0, 0), (3, 1), (4, 2)), ("go_on", (("go", 1), ("stay",), ("stay",))))
        game.go_on((("stay",), ("stay",), ("stay",)))
        self.check(game, holders=(0, None, 2, None), phase="builds")
        game.build(((3, 1),))
        game.go_on((("stay",), ("stay",)))
        game.go_on((("stay",), ("stay",)))
        self.check(game, holders=(0, None, 2, None), phase="orders", year=2)
        game = game_of(chart, ((0, 0), (3, 1), (4, 2)), ("go_on", (("go", 1), ("stay",), ("stay",))),
                       ("go_on", (("stay",), ("go", 0), ("stay",))))
        self.check(game, holders=(1, None, 2, None), phase="builds")
        self.assertEqual([-1, 0, 0, 0, 0, 0], [game.wanted(player) for player in range(6)])

    def test_half_of_all_centres_is_not_enough(self):
        for centres, winner in (((0,), 3), ((0, 1), None), ((1, 2), None), ((0, 2), None), ((0, 1, 2), None)):
            game = game_of((3, (), centres), ((0, 3),), ("go_on", (("stay",),)), ("go_on", (("stay",),)))
            self.check(game, winner=winner)
        for many, winner in ((1, None), (2, None), (3, 5), (4, 5)):
            chart = (24, (), (0, 1, 2, 3))
            pieces = tuple((field, 5) for field in range(many))
            game = game_of(chart, pieces, ("go_on", stays((chart, pieces))), ("go_on", stays((chart, pieces))))
            self.check(game, winner=winner, phase="orders" if winner is None else "ended")
        for many, winner in ((2, None), (3, 0)):
            chart = (24, (), (0, 1, 2, 3, 4))
            pieces = (*[(field, 0) for field in range(many)], *[(field, 1) for field in range(many, 5)])
            game = game_of(chart, pieces, ("go_on", stays((chart, pieces))), ("go_on", stays((chart, pieces))))
            self.check(game, winner=winner if winner is not None else 1, phase="ended")

    def test_of_no_centres_nobody_wins(self):
        chart = (3, (), ())
        game = game_of(chart, ((0, 0),), ("go_on", (("stay",),)), ("go_on", (("stay",),)))
        self.check(game, winner=None, phase="builds", holders=())
        self.refused(game, "build", (), "Unfit")
        self.assertEqual("orders", game.build(((0, 0),)))
        self.check(game, board=(chart, ()), year=1)

    def test_centres_that_were_left_count(self):
        game = game_of(LINE, ((0, 3),), ("go_on", (("go", 1),)), ("go_on", (("go", 2),)))
        self.check(game, phase="ended", winner=3, holders=(3, 3), year=0, season=1, board=(LINE, ((2, 3),)))

    def waiting_game(self, years):
        game = Game(LINE, ((0, 3),))
        for _ in range(2 * years):
            self.assertEqual("orders", game.go_on((("stay",),)))
        self.check(game, year=years, season=0, phase="orders")
        return game

    def test_the_last_year(self):
        game = self.waiting_game(29)
        self.assertEqual("orders", game.go_on((("stay",),)))
        self.assertEqual("ended", game.go_on((("stay",),)))
        self.check(game, phase="ended", winner=None, year=29, season=1, holders=(3, None))
        self.assertEqual(60, len(game.log))

    def test_the_last_year_with_a_winner(self):
        game = self.waiting_game(29)
        self.assertEqual("orders", game.go_on((("go", 1),)))
        self.assertEqual("ended", game.go_on((("go", 2),)))
        self.check(game, phase="ended", winner=3, year=29, season=1, holders=(3, 3))

    def test_the_last_year_with_wants(self):
        game = self.waiting_game(29)
        game.go_on((("go", 1),))
        self.assertEqual("ended", game.go_on((("stay",),)))
        self.check(game, phase="ended", winner=None, holders=(3, None))
        chart = (6, ((0, 1),), (0, 1, 2, 3, 4))
        game = Game(chart, ((0, 3), (2, 4)))
        for _ in range(59):
            game.go_on((("stay",), ("stay",)))
        self.assertEqual("ended", game.go_on((("go", 1), ("stay",))))
        self.check(game, phase="ended", winner=None, holders=(3, 3, 4, None, None))
        self.assertEqual(1, game.wanted(3))

    def test_the_year_ahead_of_the_last_one(self):
        game = self.waiting_game(28)
        game.go_on((("stay",),))
        self.assertEqual("orders", game.go_on((("stay",),)))
        self.check(game, year=29, season=0)

    def test_behind_the_end(self):
        game = in_each_phase()["ended"]
        for word in DEEDS:
            for argument in ((), (("stay",),), ((2, 3),), None):
                self.refused(game, word, argument, "NotNow", phase="ended")
        self.assertEqual("orders", game.undo())
        self.check(game, phase="orders", winner=None, holders=(3, None), season=1, board=(LINE, ((1, 3),)))


class Wanted(unittest.TestCase):
    def test_in_each_phase(self):
        told = {"orders": [-1, -1, 0, 0, 0, 0], "outs": [-1, -1, 0, 0, 0, 0], "builds": [-1, 0, 0, 0, 0, 0],
                "ended": [0, 0, 0, 1, 0, 0]}
        for phase, game in in_each_phase().items():
            for player, expected in enumerate(told[phase]):
                returns(self, expected, game.wanted, player=player)

    def test_what_is_no_player(self):
        for game in in_each_phase().values():
            for value in [6, -1, 7, True, False, *any_values()]:
                if not (type(value) is int and value in range(6)):
                    raises(self, "Unfit", game.wanted, player=value)


class Undo(Told):
    def test_in_each_phase(self):
        before = {"outs": "orders", "builds": "orders", "ended": "orders"}
        games = in_each_phase()
        for phase, ahead in before.items():
            self.assertEqual(ahead, games[phase].undo())
        self.check(games["outs"], board=THREE, phase="orders", orders=None, log=())
        self.check(games["builds"], board=(WHEEL, ((1, 0), (2, 1), (4, 0))), season=1, holders=(0, None))
        self.assertEqual("NothingToUndo", outcome(games["orders"].undo)[1])

    def test_back_to_the_new_game(self):
        for chart, pieces in GAMES:
            game, stands = Game(chart, pieces), []
            for word, argument in drawn_log(3, chart, pieces):
                stands.append(everything(game))
                getattr(game, word)(argument)
            while stands:
                game.undo()
                self.assertEqual(stands.pop(), everything(game))
            for _ in range(2):
                self.assertEqual(("raised", "NothingToUndo", "{}"), outcome(game.undo))
            self.assertEqual(everything(Game(chart, pieces)), everything(game))

    def test_a_game_led_on_and_taken_back_is_not_barred(self):
        game = Game(WHEEL, THREE[1])
        for turn in range(200):
            self.assertEqual("outs", game.go_on(PUSH))
            self.assertEqual("orders", game.withdraw((2,) if turn % 2 else (None,)))
            self.assertEqual("outs", game.undo())
            self.assertEqual("orders", game.undo())
        self.assertEqual(everything(Game(WHEEL, THREE[1])), everything(game))
        for _ in range(200):
            game.go_on(stays(THREE))
            game.undo()
        self.assertEqual((), game.log)

    def test_another_way_behind_it(self):
        game = game_of(WHEEL, THREE[1], ("go_on", PUSH), ("withdraw", (2,)))
        game.undo()
        self.assertEqual("orders", game.withdraw((None,)))
        self.check(game, log=(("go_on", PUSH), ("withdraw", (None,))), board=(WHEEL, ((1, 0), (4, 0))))


class Edits(Told):
    """By [F5] no game comes to MAX_EDITS ahead of its end; so the bounds are set otherwise here."""

    def test_too_many_edits(self):
        with mock.patch("whateverothers.games.MAX_YEARS", 100):
            game = Game(LINE, ((0, 3),))
            for _ in range(160):
                self.assertEqual("orders", game.go_on((("stay",),)))
            self.assertEqual((80, 0, 160), (game.year, game.season, len(game.log)))
            self.refused(game, "go_on", (("stay",),), "TooManyEdits")
            self.refused(game, "go_on", (("stay",), ("stay",)), "BadOrders", error="form")
            self.refused(game, "go_on", (("go", 2),), "BadOrders", error=("order", 0))
            self.refused(game, "withdraw", (), "NotNow", phase="orders")
            self.assertEqual("orders", game.undo())
            self.assertEqual("orders", game.go_on((("stay",),)))
            self.refused(game, "go_on", (("stay",),), "TooManyEdits")

    def test_withdrawals_and_builds(self):
        for phase, word, right, wrong in (("outs", "withdraw", (2,), (3,)), ("builds", "build", ((4, 0),), ())):
            game = in_each_phase()[phase]
            with mock.patch("whateverothers.games.MAX_EDITS", len(game.log)):
                self.refused(game, word, wrong, "Unfit")
                self.refused(game, word, right, "TooManyEdits")
                self.refused(game, "go_on", PUSH, "NotNow", phase=phase)
            self.assertEqual("orders", getattr(game, word)(right))

    def test_five_deeds_a_year_at_most(self):
        for chart, pieces in GAMES:
            for seed in range(4):
                log = drawn_log(seed, chart, pieces)
                self.assertLessEqual(len(log), 5 * (stand_behind(chart, pieces, log)["year"] + 1))


class BesideThePlainGame(Told):
    def compare(self, game, stand):
        self.assertEqual(shown(stand_of(game)), shown({name: stand[name] for name in ATTRIBUTES}))
        self.assertEqual([wants(stand, player) for player in range(6)], [game.wanted(player) for player in range(6)])

    def tried_deeds(self, draw, stand, log):
        """Deeds that are mostly refused: of other phases, of other moments, and with parts exchanged."""
        right = drawn_deed(draw, stand) if stand["phase"] != "ended" else ("go_on", ())
        spoiled = list(exchanged(right[1], [None, True, 0, 3, (), ("stay",), (0, 0), [0]]))
        arguments = [draw.choice(log)[1], (), None, right[1], *draw.sample(spoiled, min(len(spoiled), 12))]
        return [(word, argument) for argument in arguments for word in DEEDS]

    def lead(self, chart, pieces, seed, most=70):
        draw = random.Random(seed)
        game, stand = Game(chart, pieces), new_stand(chart, pieces)
        log = drawn_log(seed, chart, pieces)
        for deed in log[:most]:
            self.compare(game, stand)
            for word, argument in self.tried_deeds(draw, stand, log):
                self.try_deed(game, stand, word, argument)
            self.assertEqual(stand_with(stand, deed)["phase"], getattr(game, deed[0])(deed[1]))
            stand = stand_with(stand, deed)
        self.compare(game, stand)

    def try_deed(self, game, stand, word, argument):
        error = refusal(stand, word, argument)
        if error is None:
            self.assertEqual(stand_with(stand, (word, argument))["phase"], getattr(game, word)(argument))
            self.compare(game, stand_with(stand, (word, argument)))
            self.assertEqual(stand["phase"], game.undo())
        else:
            self.assertEqual(("raised", *error), outcome(getattr(game, word), argument))
        self.compare(game, stand)

    def test_drawn_games(self):
        for chart, pieces in GAMES:
            for seed in range(3):
                self.lead(chart, pieces, seed)

    def test_a_game_with_all_that_may_be_built(self):
        chart, pieces = GAMES[1]
        for seed in range(4):
            log = drawn_log(seed + 20, chart, pieces)
            for at in (at for at, (word, _) in enumerate(log) if word == "build"):
                game, stand = game_of(chart, pieces, *log[:at]), stand_behind(chart, pieces, log[:at])
                for news in all_news(stand):
                    self.assertEqual("orders", game.build(news))
                    self.compare(game, stand_with(stand, ("build", news)))
                    game.undo()

    def test_all_withdrawals(self):
        for chart, pieces in GAMES[:2]:
            log = drawn_log(9, chart, pieces)
            for at in (at for at, (word, _) in enumerate(log) if word == "withdraw"):
                game, stand = game_of(chart, pieces, *log[:at]), stand_behind(chart, pieces, log[:at])
                self.assertEqual(len(exits(game.board, game.orders)), len(log[at][1]))
                for outs in all_outs(stand)[:30]:
                    game.withdraw(outs)
                    self.compare(game, stand_with(stand, ("withdraw", outs)))
                    game.undo()

    def test_two_games_in_turns(self):
        games = [(chart, pieces, drawn_log(seed, chart, pieces)) for seed, (chart, pieces) in enumerate(GAMES)]
        led = [Game(chart, pieces) for chart, pieces, _ in games]
        for at in range(max(len(log) for _, _, log in games)):
            for game, (_, _, log) in zip(led, games):
                if at < len(log):
                    getattr(game, log[at][0])(log[at][1])
        for game, (chart, pieces, log) in zip(led, games):
            self.compare(game, stand_behind(chart, pieces, log))

    def test_players_called_otherwise(self):
        names = (4, 2, 5, 0, 1, 3)
        for chart, pieces in GAMES:
            log = drawn_log(7, chart, pieces)
            stand = stand_behind(chart, pieces, log)
            renamed = [(word, tuple(sorted((field, names[player]) for field, player in argument))
                        if word == "build" else argument) for word, argument in log]
            game = game_of(chart, tuple((field, names[player]) for field, player in pieces), *renamed)
            self.check(game, phase=stand["phase"], year=stand["year"], season=stand["season"],
                       winner=None if stand["winner"] is None else names[stand["winner"]],
                       holders=tuple(None if holder is None else names[holder] for holder in stand["holders"]),
                       board=(chart, tuple((field, names[player]) for field, player in stand["board"][1])))

    def test_what_holds(self):
        for chart, pieces in GAMES:
            for seed in range(4):
                self.check_what_holds(chart, pieces, drawn_log(seed + 30, chart, pieces))

    def check_what_holds(self, chart, pieces, log):
        game = Game(chart, pieces)
        for word, argument in log:
            before = (len(game.board[1]), game.holders, game.season)
            getattr(game, word)(argument)
            if word == "build":
                self.assertTrue(all(game.wanted(player) >= 0 for player in range(6)))
                self.assertTrue(all(player in game.holders for _, player in game.board[1]))
                self.assertLessEqual(len(argument), 16)
            else:
                self.assertLessEqual(len(game.board[1]), before[0])
            if game.holders != before[1]:
                self.assertEqual(1, before[2])
            held = zip(before[1], game.holders)
            self.assertFalse(any(old is not None and new is None for old, new in held))


class Errors(unittest.TestCase):
    def test_they_are_the_packages_own(self):
        for kind in (BadBoard, BadOrders, NotNow, TooManyEdits, Unfit):
            self.assertTrue(issubclass(kind, OrderError))


if __name__ == "__main__":
    unittest.main()
