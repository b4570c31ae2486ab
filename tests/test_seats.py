"""Tables: orders handed in unseen [M1], [M2], [M3]."""
import copy
import itertools
import random
import unittest

from tests.plain import FULL, THREE, WHEEL, all_orders, error_of_board
from tests.plaingames import GAMES, LINE, PLAYERS, drawn_push_orders, news_of, round_of, stand_of
from tests.plaintable import PlainTable
from tests.support import any_values, call_alike, exchanged, is_plain, outcome, shown
from whateverothers.boards import board_error
from whateverothers.gamelogs import read_game
from whateverothers.games import Game
from whateverothers.seats import Table

FIRST, SECOND = ((0, ("go", 1)), (4, ("back", 0, 1))), ((1, ("go", 2)),)


def in_each_phase():
    """A table in each of the phases, made anew, and the like plain one."""
    found = {}
    for phase, closings in (("orders", ()), ("outs", ((0, FIRST),)), ("builds", ((0, FIRST), (1, ((1, 2),)),
                                                                                (0, ((1, ("go", 0)),))))):
        found[phase] = (Table(WHEEL, THREE[1]), PlainTable(WHEEL, THREE[1]))
        for player, thing in closings:
            for table in found[phase]:
                table.hand_in(player, thing)
                table.close()
    found["ended"] = (Table(LINE, ((0, 3),)), PlainTable(LINE, ((0, 3),)))
    for goal in (1, 2):
        for table in found["ended"]:
            table.hand_in(3, ((goal - 1, ("go", goal)),))
            table.close()
    for phase, (table, plain) in found.items():
        assert plain.stand["phase"] == phase == table.view(0)[2]
    return found


def drawn_thing(draw, plain, player):
    """What this player may hand in, drawn; in the phase "orders" some pieces push others."""
    stand = plain.stand
    board = stand["board"]
    if stand["phase"] == "builds":
        return draw.choice(news_of(stand, player))
    if stand["phase"] == "orders":
        orders = drawn_push_orders(draw, board)
        told = [(field, order) for (field, owner), order in zip(board[1], orders) if owner == player]
    else:
        around = round_of(board, stand["orders"])
        told = [(board[1][place][0], draw.choice((None, *fields)))
                for (place, _), fields in zip(around.pushed_out(), around.exits()) if board[1][place][1] == player]
    return tuple(pair for pair in told if draw.random() < 0.8)


class Told(unittest.TestCase):
    def same(self, table, plain):
        """Both stand alike, for whoever looks."""
        for player in PLAYERS:
            self.assertEqual(plain.told("view", player), outcome(table.view, player))
        self.assertEqual(plain.journal, table.journal)

    def both(self, table, plain, word, *arguments):
        """A call of both comes to the same; what is handed in stays as it is."""
        kept = copy.deepcopy(arguments)
        expected = plain.told(word, *arguments)
        self.assertEqual(expected, outcome(getattr(table, word), *arguments), (word, arguments))
        self.assertEqual(shown(kept), shown(arguments))
        return expected

    def refused(self, table, word, arguments, name, **fields):
        """A call is refused by place and by names, and nothing changes."""
        before = shown([table.view(player) for player in PLAYERS] + [table.journal])
        names = dict(zip(("player", "thing"), arguments))
        for _ in range(2):
            self.assertEqual(("raised", name, shown(fields)), outcome(getattr(table, word), *arguments),
                             (word, arguments))
            self.assertEqual(("raised", name, shown(fields)), outcome(getattr(table, word), **names), (word, arguments))
        self.assertEqual(before, shown([table.view(player) for player in PLAYERS] + [table.journal]))


class ByHand(Told):
    def test_a_new_table(self):
        for table in (Table(WHEEL, THREE[1]), Table(pieces=THREE[1], chart=WHEEL)):
            self.assertEqual((), table.journal)
            for player in PLAYERS:
                self.assertEqual((0, 0, "orders", THREE, (0, None), None, None, ()), table.view(player))
                self.assertEqual(table.view(player), table.view(player=player))

    def test_bad_boards(self):
        for chart, pieces in ((WHEEL, [(0, 0)]), (WHEEL, ((0, 6),)), (WHEEL, ((5, 0),)), ((0, (), ()), ()), (THREE, ()),
                              (FULL, tuple((field, 0) for field in range(17))), (None, ()), (WHEEL, None)):
            self.assertEqual(("raised", "BadBoard", shown({"error": board_error((chart, pieces))})),
                             call_alike(self, Table, chart=chart, pieces=pieces))
        for value in any_values():
            for chart, pieces in ((value, ()), (WHEEL, value), (value, value)):
                error = error_of_board((chart, pieces))
                if error is not None:
                    self.assertEqual(("raised", "BadBoard", shown({"error": error})), outcome(Table, chart, pieces))

    def test_things_are_kept_put_anew_and_taken_back(self):
        table = Table(WHEEL, THREE[1])
        self.assertIsNone(table.hand_in(0, FIRST))
        self.assertEqual((FIRST, (0,)), table.view(0)[6:])
        self.assertEqual((None, (0,)), table.view(1)[6:])
        self.assertIsNone(table.hand_in(player=1, thing=()))
        self.assertEqual(((), (0, 1)), table.view(1)[6:])
        self.assertIsNone(table.hand_in(0, FIRST[:1]))
        self.assertEqual((FIRST[:1], (0, 1)), table.view(0)[6:])
        self.assertIsNone(table.hand_in(5, ()))
        self.assertEqual((0, 1, 5), table.view(3)[7])
        self.assertIsNone(table.take_back(player=0))
        self.assertEqual((None, (1, 5)), table.view(0)[6:])
        self.refused(table, "take_back", (0,), "Unfit")
        self.assertIsNone(table.hand_in(0, FIRST))
        self.assertEqual("outs", table.close())
        self.assertEqual(("orders 0 go 1; 1 stay; 4 back 0 1",), table.journal)

    def test_who_tells_nothing_stays(self):
        table = Table(WHEEL, THREE[1])
        self.assertEqual("orders", table.close())
        self.assertEqual(("orders 0 stay; 1 stay; 4 stay",), table.journal)
        table.hand_in(0, FIRST[1:])
        table.hand_in(1, SECOND)
        self.assertEqual("builds", table.close())
        self.assertEqual("orders 0 stay; 1 go 2; 4 back 0 1", table.journal[1])

    def test_who_tells_nothing_is_gone(self):
        for thing, pieces in ((None, ((1, 0), (4, 0))), ((), ((1, 0), (4, 0))), (((1, None),), ((1, 0), (4, 0))),
                              (((1, 2),), ((1, 0), (2, 1), (4, 0)))):
            table = in_each_phase()["outs"][0]
            if thing is not None:
                table.hand_in(1, thing)
            self.assertEqual("orders", table.close())
            self.assertEqual(pieces, table.view(0)[3][1])
            self.assertEqual("outs 2" if len(pieces) == 3 else "outs -", table.journal[1])

    def test_who_tells_nothing_loses_the_pieces_in_the_greatest_fields(self):
        for thing, line in ((None, "builds 4:a"), (((4, 0),), "builds 4:a"), (((0, 0),), "builds 0:a")):
            table = in_each_phase()["builds"][0]
            if thing is not None:
                table.hand_in(0, thing)
            self.assertEqual("orders", table.close())
            self.assertEqual(line, table.journal[3])

    def test_several_too_many(self):
        table = Table((9, (), (2, 5)), tuple((field, 0 if field in (1, 2, 4, 8) else 1) for field in range(9)))
        table.close()
        self.assertEqual("builds", table.close())
        self.assertEqual((0, 1), table.view(0)[4])
        self.refused(table, "hand_in", (1, ((0, 1), (3, 1), (5, 1))), "Unfit")
        self.refused(table, "hand_in", (0, ()), "Unfit")
        self.refused(table, "hand_in", (0, ((1, 0), (2, 0), (4, 0), (8, 0))), "Unfit")
        table.hand_in(0, ((1, 0), (2, 0), (8, 0)))
        self.assertEqual("orders", table.close())
        self.assertEqual("builds 1:a 2:a 3:b 5:b 6:b 7:b 8:a", table.journal[2])
        self.assertEqual(((0, 1), (4, 0)), table.view(0)[3][1])

    def test_handed_in_nothing_counts_as_handed_in(self):
        for phase, (table, plain) in in_each_phase().items():
            for player in PLAYERS:
                expected = plain.told("hand_in", player, ())
                self.assertEqual(expected, outcome(table.hand_in, player, ()))
                if phase in ("orders", "outs"):
                    self.assertEqual("returned", expected[0])
                    self.assertEqual(((), tuple(range(player + 1))), table.view(player)[6:])
        table = in_each_phase()["builds"][0]
        self.refused(table, "hand_in", (0, ()), "Unfit")
        self.assertIsNone(table.hand_in(1, ()))

    def test_the_end(self):
        table = in_each_phase()["ended"][0]
        self.assertEqual((0, 1, "ended", (LINE, ((2, 3),)), (3, 3), 3, None, ()), table.view(3))
        self.refused(table, "close", (), "NotNow", phase="ended")
        self.refused(table, "hand_in", (3, ()), "NotNow", phase="ended")
        self.refused(table, "hand_in", (3, ((2, ("stay",)),)), "NotNow", phase="ended")
        self.refused(table, "hand_in", (3, "any"), "NotNow", phase="ended")
        self.refused(table, "hand_in", (6, ()), "Unfit")
        self.refused(table, "take_back", (3,), "Unfit")

    def test_more_pieces_than_there_may_be(self):
        one, two, off = ((0, 0),), ((0, 0), (2, 0)), ((15, 1),)
        for first, second, line in ((None, None, "builds 22:b"), (None, off, "builds 15:b"),
                                    (one, None, "builds 0:a 22:b"),
                                    (one, off, "builds 0:a 15:b"), (two, None, "builds 22:b"),
                                    (two, off, "builds 15:b"),
                                    ((), None, "builds 22:b"), (((0, 0), (1, 0), (2, 0)), off, "builds 15:b")):
            with self.subTest((first, second)):
                table = self.crowded_table()
                for player, thing in ((0, first), (1, second)):
                    if thing is not None:
                        self.assertIsNone(table.hand_in(player, thing))
                self.assertEqual("orders", table.close())
                self.assertEqual(line, table.journal[-1])
                self.assertEqual(16 if "0:a" in line else 15, len(table.view(0)[3][1]))

    def crowded_table(self):
        """16 pieces behind a year: player 0 holds eleven centres and has eight pieces, player 1 seven and eight."""
        chart = (24, ((0, 8), (1, 9), (2, 10)), tuple(range(22)))
        table = Table(chart, tuple((field, 0) for field in range(8)) + tuple((field, 1) for field in range(15, 23)))
        table.hand_in(0, tuple((field, ("go", field + 8)) for field in range(3)))
        table.close()
        self.assertEqual("builds", table.close())
        self.assertEqual([11, 7], [table.view(0)[4].count(player) for player in (0, 1)])
        self.refused(table, "hand_in", (0, ((0, 0), (1, 0), (2, 0), (3, 0))), "Unfit")
        self.refused(table, "hand_in", (0, ((11, 0),)), "Unfit")
        self.refused(table, "hand_in", (1, ((15, 1), (16, 1))), "Unfit")
        return table

class Errors(Told):
    def test_players(self):
        values = [value for value in any_values() if shown(value) not in map(shown, PLAYERS)] + [6, -1, 6 ** 50]
        for table, _ in in_each_phase().values():
            for value in values:
                self.refused(table, "hand_in", (value, ()), "Unfit")
                self.refused(table, "hand_in", (value, "any"), "Unfit")
                self.refused(table, "take_back", (value,), "Unfit")
                self.refused(table, "view", (value,), "Unfit")

    def test_nothing_to_take_back(self):
        for table, _ in in_each_phase().values():
            for player in PLAYERS:
                self.refused(table, "take_back", (player,), "Unfit")

    def test_what_was_handed_in_is_gone_behind_closing(self):
        table = Table(WHEEL, THREE[1])
        table.hand_in(0, FIRST)
        table.close()
        self.refused(table, "take_back", (0,), "Unfit")
        self.assertEqual((None, ()), table.view(0)[6:])

    def test_values_of_all_kinds(self):
        for table, plain in in_each_phase().values():
            for value in any_values():
                for player, thing in itertools.product((0, 1, 3, 5), (value, (value,), ((0, value),), ((value, ("stay",)),),
                                                                     ((value, value),), ((value, 0),), ((4, value),))):
                    self.both(table, plain, "hand_in", player, thing)
            self.same(table, plain)

    def test_things_with_any_part_exchanged(self):
        others = [None, True, False, 0, 1, 2, 4, (), ("stay",), ("go", 2), (4, 0), (0,), "stay"]
        for (table, plain), things in zip(in_each_phase().values(), (((0, FIRST), (1, SECOND)),
                                                                     ((1, ((1, 2),)), (1, ((1, None),))),
                                                                     ((0, ((4, 0),)), (1, ())),
                                                                     ((3, ((2, ("stay",)),)),))):
            for player, thing in things:
                for value in exchanged(thing, others):
                    for other in (player, (player + 1) % 6):
                        self.both(table, plain, "hand_in", other, value)
            self.same(table, plain)

    def test_things_of_another_phase(self):
        things = (FIRST, SECOND, ((1, 2),), ((1, None),), ((4, 0),), ((0, 0),), ((2, 3),), ((2, ("stay",)),),
                  ((2, ("go", 1)),), ())
        for table, plain in in_each_phase().values():
            for player, thing in itertools.product(PLAYERS, things):
                self.both(table, plain, "hand_in", player, thing)

    def test_out_of_order_twice_and_of_others(self):
        table = Table(WHEEL, THREE[1])
        for player, thing in ((0, FIRST[::-1]), (0, FIRST[:1] * 2), (0, SECOND), (1, FIRST), (0, FIRST[:1] + SECOND),
                              (0, list(FIRST)),
                              (0, ((2, ("stay",)),)), (0, ((0, ("go", 2)),)), (0, ((0, ("back", 0, 1)),)),
                              (0, ((0, ["go", 1]),)),
                              (0, ([0, ("go", 1)],)), (0, ((0, ("go", True)),)), (0, ((False, ("go", 1)),)),
                              (2, SECOND),
                              (0, ((0, None),)), (0, ((0, ("go", 1), 4),)), (0, ((0,),)), (0, (0, ("go", 1)))):
            self.refused(table, "hand_in", (player, thing), "Unfit")

    def test_the_same_player_keeps_what_was_right(self):
        table = Table(WHEEL, THREE[1])
        table.hand_in(0, FIRST)
        self.refused(table, "hand_in", (0, SECOND), "Unfit")
        self.assertEqual(FIRST, table.view(0)[6])


class BesideThePlainOne(Told):
    def play(self, seed, chart, pieces, most):
        """A whole game with all that may be done in it; how many deeds were done in which phases."""
        draw, table, plain = random.Random(seed), Table(chart, pieces), PlainTable(chart, pieces)
        phases = []
        while plain.stand["phase"] != "ended" and len(phases) < most:
            for _ in range(draw.randint(0, 9)):
                player = draw.randrange(6)
                if draw.random() < 0.2:
                    self.both(table, plain, "take_back", player)
                else:
                    thing = drawn_thing(draw, plain, draw.choice((player, player, player, (player + 1) % 6)))
                    self.both(table, plain, "hand_in", player, thing)
                player = draw.randrange(6)
                self.assertEqual(plain.told("view", player), outcome(table.view, player))
            phases.append(plain.stand["phase"])
            self.both(table, plain, "close")
            self.same(table, plain)
        return phases

    def test_whole_games(self):
        phases = []
        for seed in range(20):
            phases += self.play(seed, *GAMES[seed % len(GAMES)], 60)
        for phase in ("orders", "outs", "builds"):
            self.assertGreater(phases.count(phase), 8)

    def test_a_game_read_from_the_journal_stands_alike(self):
        for seed in range(6):
            chart, pieces = GAMES[seed % len(GAMES)]
            table, plain, draw = Table(chart, pieces), PlainTable(chart, pieces), random.Random(seed)
            for _ in range(25):
                if plain.stand["phase"] == "ended":
                    break
                for player in PLAYERS:
                    self.both(table, plain, "hand_in", player, drawn_thing(draw, plain, player))
                self.both(table, plain, "close")
                game = read_game(chart, pieces, "".join(line + "\n" for line in table.journal))
                self.assertEqual(plain.stand, stand_of(game))
                self.assertEqual((game.year, game.season, game.phase, game.board, game.holders, game.winner),
                                 table.view(0)[:6])

    def test_sixty_closings_with_nothing_handed_in(self):
        chart = (4, ((0, 1), (1, 2), (2, 3)), (0, 3))
        table, game = Table(chart, ((0, 0), (3, 1))), Game(chart, ((0, 0), (3, 1)))
        for turn in range(60):
            self.assertEqual((turn // 2, turn % 2, "orders"), table.view(2)[:3])
            self.assertEqual(game.go_on((("stay",), ("stay",))), table.close())
        self.assertEqual((29, 1, "ended", (chart, ((0, 0), (3, 1))), (0, 1), None, None, ()), table.view(4))
        self.assertEqual(("orders 0 stay; 3 stay",) * 60, table.journal)
        self.refused(table, "close", (), "NotNow", phase="ended")


class Unseen(Told):
    def test_what_others_hand_in_shows_in_ready_alone(self):
        for seed, (chart, pieces) in enumerate(GAMES):
            draw = random.Random(seed)
            plain = PlainTable(chart, pieces)
            for _ in range(12):
                if plain.stand["phase"] == "ended":
                    break
                seen = {}
                for _ in range(4):
                    table = self.table_like(plain, chart, pieces)
                    for player in PLAYERS:
                        if draw.random() < 0.6:
                            table.hand_in(player, drawn_thing(draw, plain, player))
                    for player in PLAYERS:
                        view = table.view(player)
                        seen.setdefault((player, view[6]), view[:7])
                        self.assertEqual(seen[player, view[6]], view[:7])
                for player in PLAYERS:
                    plain.hand_in(player, drawn_thing(draw, plain, player))
                plain.close()

    def table_like(self, plain, chart, pieces):
        """A table that stands like the plain one, by what each player has told."""
        table = Table(chart, pieces)
        for word, argument in plain.stand["log"]:
            for player in PLAYERS:
                table.hand_in(player, self.part_of(table.view(player), word, argument, player, plain,
                                                   len(table.journal)))
            table.close()
        return table

    def part_of(self, view, word, argument, player, plain, at):
        """What this player tells of a deed."""
        pieces = view[3][1]
        if word == "build":
            return tuple(pair for pair in argument if pair[1] == player)
        if word == "go_on":
            return tuple((field, order) for (field, owner), order in zip(pieces, argument) if owner == player)
        orders = plain.stand["log"][at - 1][1]
        pushed = [pieces[place] for place, _ in round_of(view[3], orders).pushed_out()]
        return tuple((field, out) for (field, owner), out in zip(pushed, argument) if owner == player)

    def test_two_tables_led_alike_in_mixed_orders(self):
        for seed, (chart, pieces) in enumerate(GAMES * 2):
            draw, plain = random.Random(seed), PlainTable(chart, pieces)
            tables = (Table(chart, pieces), Table(chart, pieces))
            for _ in range(15):
                if plain.stand["phase"] == "ended":
                    break
                deeds = {player: [drawn_thing(draw, plain, player) for _ in range(draw.randint(0, 3))]
                         for player in PLAYERS}
                for table in tables:
                    self.do_mixed(draw, table, deeds)
                for player in PLAYERS:
                    for thing in deeds[player][-1:]:
                        plain.hand_in(player, thing)
                for player in PLAYERS:
                    self.assertEqual(tables[0].view(player), tables[1].view(player))
                self.assertEqual(plain.close(), tables[0].close())
                tables[1].close()
                for table in tables:
                    self.same(table, plain)

    def do_mixed(self, draw, table, deeds):
        """Each player hands in its things in order, the players' mixed in any way."""
        turns = [player for player in PLAYERS for _ in deeds[player]]
        draw.shuffle(turns)
        left = {player: list(things) for player, things in deeds.items()}
        for player in turns:
            table.hand_in(player, left[player].pop(0))

    def test_what_is_returned_cannot_change(self):
        for table, _ in in_each_phase().values():
            self.assertTrue(is_plain(table.view(0)))
            self.assertTrue(is_plain(table.journal))

    def test_all_orders_of_a_piece(self):
        table = Table(WHEEL, THREE[1])
        for place, (field, player) in enumerate(THREE[1]):
            for order in all_orders(THREE, place):
                self.assertIsNone(table.hand_in(player, ((field, order),)))
                self.assertEqual(((field, order),), table.view(player)[6])


if __name__ == "__main__":
    unittest.main()
