"""The whole program: one board through all modules, and what these tell agreeing with each other."""
import random
import unittest

from tests.plain import FOUR, FULL, THREE, WHEEL, all_orders
from tests.plainplans import all_wishes, seen_behind
from tests.plainrounds import drawn_pushes
from tests.plainshell import own_text_of
from tests.plainsure import all_own, error_of_sound, orders_that_keep, own_drawn
from tests.plaingames import GAMES, drawn_push_orders
from whateverothers.boards import board_error
from whateverothers.boardtexts import orders_text, pieces_text, read_orders, read_pieces
from whateverothers.breaking import paper, paper_error
from whateverothers.charttexts import chart_text, read_chart
from whateverothers.ends import behind, exits, pushed_out
from whateverothers.forces import force, standing
from whateverothers.gamelogs import game_behind, game_text, read_game
from whateverothers.games import Game
from whateverothers.helping import least_backs
from whateverothers.hidden import known, ways
from whateverothers.ordering import orders_error
from whateverothers.plans import plan, sure_of
from whateverothers.reasons import reasons
from whateverothers.rules import settlement_error
from whateverothers.seats import Table
from whateverothers.settling import loose_rings, settled, settlements
from whateverothers.shells import Shell
from whateverothers.sound import sound_error
from whateverothers.surety import shut, sure

# Words of reasons by what settled tells of the piece.
GOOD = ("stays", "pushed", "stands", "free", "follows", "beats")
BAD = ("unfit", "cut", "lost", "own", "met", "held", "rival")


def boards():
    """Boards with orders: those of the document, and drawn ones."""
    yield THREE, (("go", 1), ("stay",), ("back", 0, 1))
    yield THREE, (("go", 1), ("go", 4), ("go", 0))
    yield FOUR, (("go", 1), ("stay",), ("go", 4), ("back", 0, 1))
    yield from drawn_pushes(161, 60, most_pieces=6)


class OneBoard(unittest.TestCase):
    def test_settling(self):
        for board, orders in boards():
            self.assertIsNone(board_error(board))
            self.assertIsNone(orders_error(board, orders))
            told = settled(board, orders)
            self.assertIn(told, settlements(board, orders))
            self.assertEqual(2 ** len(loose_rings(board, orders)), len(settlements(board, orders)))
            for settlement in settlements(board, orders):
                self.assertIsNone(settlement_error(board, orders, settlement))
            for place, (word, *_) in enumerate(reasons(board, orders)):
                self.assertIn(word, GOOD if told[place] else BAD)
            for place in standing(board, orders):
                self.assertEqual("stands", reasons(board, orders)[place][0])
            self.assertTrue(all(force(board, orders, place) >= 1 for place in range(len(orders))))
            for place, _ in pushed_out(board, orders):
                self.assertNotIn(reasons(board, orders)[place][0], ("stays", "stands", "free", "follows", "beats"))

    def test_texts(self):
        for board, orders in boards():
            chart = read_chart(chart_text(board[0]))
            self.assertEqual(board, (chart, read_pieces(chart, pieces_text(board[1]))))
            self.assertEqual(orders, read_orders(board, orders_text(board, orders)))

    def test_a_round_by_game_table_and_shell(self):
        draw = random.Random(162)
        for board, orders in boards():
            game, table, shell = Game(*board), Table(*board), Shell()
            shell.say(f"start {chart_text(board[0])} / {pieces_text(board[1])}")
            self.go_on(game, table, shell, orders)
            if game.phase == "outs":
                outs = tuple(draw.choice((None, *fields)) for fields in exits(board, orders))
                self.assertEqual(exits(board, orders), exits(game.board, game.orders))
                self.withdraw(game, table, shell, outs)
                self.assertEqual(behind(board, orders, outs), game.board[1])
            else:
                self.assertEqual(behind(board, orders, ()), game.board[1])

    def go_on(self, game, table, shell, orders):
        pieces = game.board[1]
        for player in range(6):
            told = [(field, order) for (field, owner), order in zip(pieces, orders) if owner == player]
            table.hand_in(player, tuple(told))
        line = f"orders {orders_text(game.board, orders)}"
        self.alike(game, table, game.go_on(orders), table.close(), shell, shell.say(line))

    def withdraw(self, game, table, shell, outs):
        pushed = [game.board[1][place] for place, _ in pushed_out(game.board, game.orders)]
        for player in range(6):
            told = [(field, out) for (field, owner), out in zip(pushed, outs) if owner == player]
            table.hand_in(player, tuple(told))
        line = "outs " + " ".join("-" if out is None else str(out) for out in outs)
        self.alike(game, table, game.withdraw(outs), table.close(), shell, shell.say(line))

    def alike(self, game, table, phase, table_phase, shell, answer):
        self.assertEqual(phase, table_phase)
        self.assertEqual(phase, answer.split(" ")[0])
        self.assertEqual((game.year, game.season, game.phase, game.board, game.holders, game.winner), table.view(0)[:6])
        self.assertEqual(game_text(game), "".join(line + "\n" for line in table.journal))
        self.assertEqual(game_text(game)[:-1], shell.say("text"))
        self.assertIn(f" {phase}", shell.say("show"))
        self.assertIn(f"; {pieces_text(game.board[1]) or 'none'}; ", shell.say("show"))
        for again in (read_game(*self.first(game), game_text(game)), game_behind(*self.first(game), game.log)):
            self.assertEqual((game.phase, game.board, game.log, game.orders),
                             (again.phase, again.board, again.log, again.orders))

    def first(self, game):
        return game.boards_ahead()[0]

    def test_whole_games(self):
        for seed, (chart, pieces) in enumerate(GAMES):
            draw, game, table, shell = random.Random(seed), Game(chart, pieces), Table(chart, pieces), Shell()
            shell.say(f"start {chart_text(chart)} / {pieces_text(pieces)}")
            for _ in range(20):
                if game.phase == "orders":
                    self.go_on(game, table, shell, drawn_push_orders(draw, game.board))
                elif game.phase == "outs":
                    fields = exits(game.board, game.orders)
                    self.withdraw(game, table, shell, tuple(draw.choice((None, *items)) for items in fields))
                elif game.phase == "builds":
                    # What a table closed by nobody makes is right for the others, too.
                    phase = table.close()
                    line = table.journal[-1]
                    news = read_pieces(chart, line.partition(" ")[2])
                    self.alike(game, table, game.build(news), phase, shell, shell.say(line))


class WhateverOthers(unittest.TestCase):
    """What is told ahead agrees with what comes about."""

    def all_sound(self, board, player, step):
        for at, own in enumerate(all_own(board, player)):
            if at % step == 0 and error_of_sound(board, player, own) is None:
                self.assertIsNone(sound_error(board, player, own))
                yield own

    def test_sure_paper_and_least_backs(self):
        for board, step in ((THREE, 1), (FOUR, 3)):
            for own in self.all_sound(board, 0, step):
                for place in [place for place, item in enumerate(own) if item is not None]:
                    self.check_sure(board, own, place)

    def check_sure(self, board, own, place):
        told = paper(board, own, place)
        self.assertEqual(sure(board, own, place), told[0] == "sure")
        self.assertIsNone(paper_error(board, own, place, told))
        helped = least_backs(board, own, place)
        if sure(board, own, place):
            self.assertEqual(own, helped)
        else:
            self.assertIsNone(orders_error(board, told[1]))
            settlement = settled(board, told[1])
            if own[place][0] == "go":
                self.assertFalse(settlement[place])
            else:
                self.assertIn(place, [pushed for pushed, _ in pushed_out(board, told[1])])
        if helped is not None:
            self.assertEqual("sure", paper(board, helped, place)[0])

    def test_plans_come_about(self):
        for board in (THREE, FOUR):
            for wish in all_wishes(board):
                own = plan(board, 0, (wish,))
                if own is None:
                    for other in self.all_sound(board, 0, 1):
                        self.assertEqual((False,), sure_of(board, other, (wish,)))
                    continue
                self.assertEqual((True,), sure_of(board, own, (wish,)))
                self.check_wish(board, own, wish)
                for orders in orders_that_keep(board, own):
                    self.check_comes_about(board, orders, wish)

    def check_wish(self, board, own, wish):
        word, field = wish
        if word == "take":
            self.assertTrue(sure(board, own, own.index(("go", field))))
        elif word == "hold":
            self.assertTrue(sure(board, own, [taken for taken, _ in board[1]].index(field)))
        else:
            self.assertTrue(shut(board, own, field))

    def check_comes_about(self, board, orders, wish):
        pieces = dict(seen_behind(board, orders))
        if wish[0] == "shut":
            self.assertEqual(0, pieces.get(wish[1], 0))
        else:
            self.assertEqual(0, pieces[wish[1]])

    def test_what_is_seen_is_known_again(self):
        for board, orders in drawn_pushes(163, 25, most_pieces=5):
            seen = seen_behind(board, orders)
            for place in range(len(orders)):
                told = orders[:place] + (None,) + orders[place + 1:]
                found = ways(board, told, seen)
                self.assertIn(orders, found)
                self.assertEqual(orders[:place], known(board, told, seen)[:place])
                self.assertIn(known(board, told, seen)[place], (None, orders[place]))
                for other in found:
                    self.assertEqual(seen, seen_behind(board, other))

    def test_a_shell_tells_the_same(self):
        draw = random.Random(164)
        for board, orders in boards():
            shell = Shell()
            shell.say(f"start {chart_text(board[0])} / {pieces_text(board[1])}")
            fields, told = [field for field, _ in board[1]], settled(board, orders)
            self.assertEqual(" ".join(f"{field}{'-+'[item]}" for field, item in zip(fields, told)),
                             shell.say(f"settle {orders_text(board, orders)}"))
            for player in {player for _, player in board[1]}:
                own = own_drawn(draw, board, player)
                if sound_error(board, player, own) is None:
                    self.check_told(shell, board, player, own)

    def check_told(self, shell, board, player, own):
        letter, text = "abcdef"[player], own_text_of(board, own)
        places = [place for place, item in enumerate(own) if item is not None]
        signs = [f"{board[1][place][0]}{'-+'[sure(board, own, place)]}" for place in places]
        self.assertEqual(" ".join(signs), shell.say(f"sure {letter} {text}"))
        for place in places:
            field = board[1][place][0]
            answer = shell.say(f"paper {letter} {field} / {text}")
            self.assertEqual(sure(board, own, place), answer == "sure")
            if answer != "sure":
                orders = read_orders(board, answer[len("broken "):])
                self.assertIsNone(paper_error(board, own, place, ("broken", orders)))
            helped = least_backs(board, own, place)
            self.assertEqual("none" if helped is None else own_text_of(board, helped),
                             shell.say(f"least {letter} {field} / {text}"))


class GreatBoards(unittest.TestCase):
    def test_sixteen_pieces_round_in_a_ring(self):
        board = (FULL, tuple((field, field % 2) for field in range(16)))
        orders = tuple(("go", (field + 1) % 16) for field in range(16))
        self.assertEqual((True,) * 16, settled(board, orders))
        self.assertEqual((tuple(range(16)),), loose_rings(board, orders))
        told = (None,) + orders[1:]
        seen = seen_behind(board, orders)
        self.assertEqual((orders,), ways(board, told, seen))
        self.assertEqual(orders, known(board, told, seen))

    def test_all_that_is_told_of_one_player_of_eight(self):
        board = (FULL, tuple((field, 0 if field < 8 else 1) for field in range(16)))
        own = (("go", 20), *[("back", 0, 20)] * 7, *[None] * 8)
        self.assertFalse(sure(board, own, 0))
        self.assertIsNone(least_backs(board, own, 0))
        word, orders = paper(board, own, 0)
        self.assertEqual("broken", word)
        self.assertFalse(settled(board, orders)[0])
        self.assertEqual((False, False), sure_of(board, own, (("take", 20), ("hold", 3))))
        self.assertEqual(all_orders(board, 0)[0], ("stay",))

    def test_the_wheel_of_the_document(self):
        shell = Shell()
        shell.say(f"start {chart_text(WHEEL)} / {pieces_text(THREE[1])}")
        self.assertEqual("0 go 1; 4 back 0 1", shell.say("plan a take 1"))
        self.assertEqual("0+ 4+", shell.say("sure a 0 go 1; 4 back 0 1"))
        self.assertEqual("outs 1>2", shell.say("orders 0 go 1; 1 stay; 4 back 0 1"))


if __name__ == "__main__":
    unittest.main()
