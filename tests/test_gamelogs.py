"""Logs of games and their texts [F4], [F5]."""
import random
import unittest

from tests.plain import FULL, THREE, WHEEL, error_of_board
from tests.plaingames import (ATTRIBUTES, DEEDS, GAMES, LINE, PUSH, drawn_log, game_of, new_stand, refusal, stand_behind,
                              stand_of, stand_with)
from tests.support import any_values, call_alike, exchanged, is_plain, outcome, shown, spoiled
from whateverothers.errors import BadLog, BadText, OrderError
from whateverothers.gamelogs import game_behind, game_text, read_game
from whateverothers.games import Game

LOG = (("go_on", PUSH), ("withdraw", (2,)), ("go_on", (("go", 0), ("stay",), ("stay",))), ("build", ((4, 0),)))
TEXT = "orders 0 go 1; 1 stay; 4 back 0 1\nouts 2\norders 1 go 0; 2 stay; 4 stay\nbuilds 4:a\n"
BOARD = {"chart": WHEEL, "pieces": THREE[1]}


def plain_line(board, deed):
    """[F4], word by word."""
    word, argument = deed
    if word == "go_on":
        orders = [" ".join(map(str, (field, *order))) for (field, _), order in zip(board[1], argument)]
        return "orders " + "; ".join(orders) + "\n"
    if word == "withdraw":
        return "outs " + " ".join("-" if out is None else str(out) for out in argument) + "\n"
    return "builds " + " ".join(f"{field}:{'abcdef'[player]}" for field, player in argument) + "\n"


def plain_text(chart, pieces, log):
    lines, stand = [], new_stand(chart, pieces)
    for deed in log:
        lines.append(plain_line(stand["board"], deed))
        stand = stand_with(stand, deed)
    return "".join(lines)


def first_wrong(chart, pieces, log):
    """The place of the first item that is no deed or is refused, None if there is none; log is a tuple."""
    stand = new_stand(chart, pieces)
    for place, item in enumerate(log):
        if type(item) is not tuple or len(item) != 2 or type(item[0]) is not str or item[0] not in DEEDS:
            return place
        if refusal(stand, *item) is not None:
            return place
        stand = stand_with(stand, item)
    return None


def drawn_logs():
    """Logs of none to many deeds, with their charts and pieces."""
    for at, (chart, pieces) in enumerate(GAMES):
        log = drawn_log(at + 50, chart, pieces)
        for many in {0, 1, 2, 3, 5, 8, len(log) // 2, len(log)}:
            yield chart, pieces, log[:many]


class Told(unittest.TestCase):
    def same(self, game, stand):
        self.assertEqual(shown({name: stand[name] for name in ATTRIBUTES}), shown(stand_of(game)))

    def bad_log(self, place, value, chart=WHEEL, pieces=THREE[1]):
        expected = ("raised", "BadLog", shown({"place": place}))
        self.assertEqual(expected, call_alike(self, game_behind, chart=chart, pieces=pieces, value=value))

    def bad_text(self, value, chart=WHEEL, pieces=THREE[1]):
        self.assertEqual(("raised", "BadText", "{}"),
                         call_alike(self, read_game, chart=chart, pieces=pieces, value=value))


class GameBehind(Told):
    def test_logs_of_none_to_many_deeds(self):
        for chart, pieces, log in drawn_logs():
            for game in (game_behind(chart, pieces, log), game_behind(value=log, pieces=pieces, chart=chart)):
                self.same(game, stand_behind(chart, pieces, log))
                self.assertEqual(shown(log), shown(game.log))

    def test_the_game_of_a_log_is_the_same_game(self):
        for chart, pieces, log in drawn_logs():
            game = game_of(chart, pieces, *log)
            anew = game_behind(chart, pieces, game.log)
            self.assertEqual(shown(stand_of(game)), shown(stand_of(anew)))
            while game.log:
                self.assertEqual(game.undo(), anew.undo())
                self.assertEqual(shown(stand_of(game)), shown(stand_of(anew)))

    def test_it_is_led_on_and_taken_back(self):
        game = game_behind(WHEEL, THREE[1], LOG[:3])
        self.assertEqual("orders", game.build(((4, 0),)))
        self.assertEqual(LOG, game.log)
        self.assertEqual(["builds", "orders", "outs", "orders"], [game.undo() for _ in range(4)])
        self.assertEqual("NothingToUndo", outcome(game.undo)[1])

    def test_equal_calls_are_not_changed_by_what_is_done(self):
        first = game_behind(WHEEL, THREE[1], LOG)
        first.undo()
        first.undo()
        second = game_behind(WHEEL, THREE[1], LOG)
        self.same(second, stand_behind(WHEEL, THREE[1], LOG))
        self.same(first, stand_behind(WHEEL, THREE[1], LOG[:2]))

    def test_items_left_out_put_twice_and_exchanged(self):
        for at in range(4):
            if at < 3:
                self.bad_log(at, LOG[:at] + LOG[at + 1:])
            self.bad_log(at + 1, LOG[:at + 1] + LOG[at:])
        self.bad_log(0, (LOG[1], LOG[0], *LOG[2:]))
        self.bad_log(1, (LOG[0], LOG[2], LOG[1], LOG[3]))
        self.bad_log(2, (*LOG[:2], LOG[3], LOG[2]))
        self.bad_log(0, LOG[::-1])

    def test_items_of_another_form(self):
        for at in range(4):
            word, argument = LOG[at]
            for item in (None, True, 0, word, (), (word,), (word, argument, argument), [word, argument], (argument, word),
                         (word + "s", argument), (word.upper(), argument), ("undo", argument), ("undo", ()), (None, argument),
                         ([word], argument), (word, [argument]), (word, list(argument)), (word, None), (word, argument[1:]),
                         (word, argument * 2), {word: argument}, (at, argument), (True, argument), ("wanted", 0),
                         ("orders", argument), ("outs", argument), ("builds", argument), ("", argument)):
                self.bad_log(at, LOG[:at] + (item,) + LOG[at + 1:])
                self.bad_log(at, LOG[:at] + (item,))

    def test_what_is_no_tuple(self):
        for value in (None, True, False, 0, 1, "", "go_on", TEXT, [], list(LOG), {}, {0: LOG[0]}):
            self.bad_log(0, value)

    def test_values_of_all_kinds(self):
        for value in any_values():
            if value == () and isinstance(value, tuple):
                self.same(game_behind(WHEEL, THREE[1], value), new_stand(WHEEL, THREE[1]))
            else:
                self.bad_log(0, value)
            self.bad_log(4, (*LOG, value))
            self.bad_log(1, (LOG[0], ("withdraw", value), *LOG[2:]))
            self.bad_log(3, (*LOG[:3], (value, ((4, 0),))))

    def test_logs_with_any_part_exchanged(self):
        draw = random.Random(1)
        others = [None, True, 0, 2, 4, (), ("stay",), ("go", 1), "build", [0]]
        for value in draw.sample(list(exchanged(LOG, others)), 400):
            if isinstance(value, tuple):
                place = first_wrong(WHEEL, THREE[1], value)
                if place is None:
                    self.same(game_behind(WHEEL, THREE[1], value), stand_behind(WHEEL, THREE[1], value))
                else:
                    self.bad_log(place, value)

    def test_deeds_behind_the_end(self):
        log = (("go_on", (("go", 1),)), ("go_on", (("go", 2),)))
        self.assertEqual("ended", game_behind(LINE, ((0, 3),), log).phase)
        self.bad_log(2, (*log, log[0]), LINE, ((0, 3),))
        self.bad_log(2, (*log, ("go_on", (("stay",),))), LINE, ((0, 3),))
        self.bad_log(2, log * 1000, LINE, ((0, 3),))

    def test_the_longest_games(self):
        log = (("go_on", (("stay",),)),) * 60
        self.assertEqual(("ended", 29, None), self.end_of(log))
        self.bad_log(60, log + log[:1], LINE, ((0, 3),))

    def end_of(self, log):
        game = game_behind(LINE, ((0, 3),), log)
        return game.phase, game.year, game.winner

    def test_bad_boards_go_ahead(self):
        for value in (LOG, (), None, [], (None,)):
            for chart, pieces in ((WHEEL, None), (None, ()), (WHEEL, ((0, 6),)), ((0, (), ()), ()), (WHEEL, [(0, 0)])):
                expected = ("raised", "BadBoard", shown({"error": error_of_board((chart, pieces))}))
                self.assertEqual(expected, call_alike(self, game_behind, chart=chart, pieces=pieces, value=value))
        for value in any_values():
            if error_of_board((value, value)) is not None:
                self.assertEqual("BadBoard", outcome(game_behind, value, value, value)[1])

    def test_handing_in_is_no_change(self):
        value = (LOG[0], ["withdraw", (2,)])
        self.bad_log(1, value)
        self.assertEqual((LOG[0], ["withdraw", (2,)]), value)
        self.assertTrue(is_plain(game_behind(WHEEL, THREE[1], LOG).log))


class GameText(Told):
    def test_lines(self):
        game = Game(WHEEL, THREE[1])
        lines = TEXT.split("\n")
        for at, (word, argument) in enumerate(LOG):
            self.assertEqual("".join(line + "\n" for line in lines[:at]), game_text(game))
            getattr(game, word)(argument)
        self.assertEqual(TEXT, game_text(game))
        self.assertEqual(TEXT, game_text(game=game))
        game.undo()
        self.assertEqual(TEXT[:TEXT.index("builds")], game_text(game))

    def test_none_of_several_outs(self):
        chart = (7, ((0, 1), (0, 4), (0, 5), (2, 3), (2, 4), (2, 6)), ())
        pieces = ((0, 0), (1, 1), (2, 0), (3, 1), (5, 1), (6, 1))
        orders = (("stay",), ("go", 0), ("stay",), ("go", 2), ("back", 1, 0), ("back", 3, 2))
        for outs, line in (((4, 4), "outs 4 4"), ((4, None), "outs 4 -"), ((None, 4), "outs - 4"),
                           ((None, None), "outs - -")):
            log = (("go_on", orders), ("withdraw", outs))
            text = f"orders 0 stay; 1 go 0; 2 stay; 3 go 2; 5 back 1 0; 6 back 3 2\n{line}\n"
            self.assertEqual(text, game_text(game_behind(chart, pieces, log)))
            self.assertEqual(log, read_game(chart, pieces, text).log)
            for wrong in ("outs 4", "outs 4 4 4", "outs -", "outs", "outs ", "outs 4,4", "outs 4  4", "outs  4 4",
                          "outs 4 4 ", "outs 04 4", "outs None 4", "outs 4 1", "outs -- 4", "outs -4 4", "outs 4 +4"):
                self.bad_text(text.replace(line, wrong), chart, pieces)

    def test_no_news(self):
        chart = (3, ((0, 1),), (0, 1))
        log = (("go_on", (("go", 1),)), ("go_on", (("stay",),)))
        chart = (6, ((0, 1),), (0, 1, 3, 4, 5))
        pieces = ((0, 0), (3, 1))
        log = (("go_on", (("go", 1), ("stay",))), ("go_on", (("stay",), ("stay",))), ("build", ()))
        text = "orders 0 go 1; 3 stay\norders 1 stay; 3 stay\nbuilds \n"
        self.assertEqual(text, game_text(game_behind(chart, pieces, log)))
        self.assertEqual(log, read_game(chart, pieces, text).log)
        self.assertEqual((*log[:2], ("build", ((0, 0),))), read_game(chart, pieces, text.replace("s \n", "s 0:a\n")).log)
        for wrong in ("builds\n", "builds  \n", "builds", "builds ", "build \n", "builds 0:b\n", "builds 1:a\n",
                      "builds 0:a \n", "builds 00:a\n", "builds 0:A\n", "builds 0:a 0:a\n", "builds 0a\n"):
            self.bad_text(text.replace("builds \n", wrong), chart, pieces)

    def test_no_pieces(self):
        game = game_behind(WHEEL, (), (("go_on", ()),) * 3)
        self.assertEqual("orders \norders \norders \n", game_text(game))
        self.assertEqual(game.log, read_game(WHEEL, (), "orders \norders \norders \n").log)
        for wrong in ("orders\n", "orders  \n", "orders 0 stay\n", "orders", "\n"):
            self.bad_text(wrong, WHEEL, ())

    def test_drawn_games(self):
        for chart, pieces, log in drawn_logs():
            game = game_behind(chart, pieces, log)
            self.assertEqual(plain_text(chart, pieces, log), game_text(game))
            self.assertEqual(("returned", shown(game_text(game))), outcome(game_text, game))
            self.same(game, stand_behind(chart, pieces, log))

    def test_fields_of_two_figures(self):
        log = (("go_on", (("back", 23, 23), ("stay",))), ("go_on", (("go", 20), ("back", 10, 20))))
        text = "orders 10 back 23 23; 23 stay\norders 10 go 20; 23 back 10 20\n"
        self.assertEqual(text, game_text(game_behind(FULL, ((10, 0), (23, 0)), log)))
        self.assertEqual(log, read_game(FULL, ((10, 0), (23, 0)), text).log)


class ReadGame(Told):
    def test_there_and_back(self):
        for chart, pieces, log in drawn_logs():
            text = plain_text(chart, pieces, log)
            for game in (read_game(chart, pieces, text), read_game(value=text, chart=chart, pieces=pieces)):
                self.same(game, stand_behind(chart, pieces, log))
                self.assertEqual(text, game_text(game))

    def test_no_deeds(self):
        self.same(read_game(WHEEL, THREE[1], ""), new_stand(WHEEL, THREE[1]))

    def test_it_is_led_on_and_taken_back(self):
        game = read_game(WHEEL, THREE[1], TEXT)
        self.assertEqual(["builds", "orders", "outs", "orders"], [game.undo() for _ in range(4)])
        self.assertEqual("outs", game.go_on(PUSH))
        self.assertEqual(TEXT.split("\n")[0] + "\n", game_text(game))
        self.same(read_game(WHEEL, THREE[1], TEXT), stand_behind(WHEEL, THREE[1], LOG))

    def test_lines_left_out_and_exchanged(self):
        lines = [line + "\n" for line in TEXT.split("\n")[:-1]]
        for at in range(4):
            if at < 3:
                self.bad_text("".join(lines[:at] + lines[at + 1:]))
                self.bad_text("".join(lines[:at] + [lines[at + 1], lines[at]] + lines[at + 2:]))
            self.bad_text("".join(lines[:at + 1] + lines[at:]))
            self.bad_text("".join(lines[:at] + ["\n"] + lines[at:]))
            self.bad_text("".join(lines[:at] + [lines[at][:-1]] + lines[at + 1:]))
        self.bad_text(TEXT + "\n")
        self.bad_text(TEXT[:-1])
        self.bad_text(TEXT + lines[0])

    def test_wrong_words_and_signs(self):
        for old, new in (("orders 0", "order 0"), ("orders 0", "Orders 0"), ("orders 0", "go_on 0"), ("orders 0", "orders  0"),
                         ("orders 0", " orders 0"), ("orders 0", "orders 00"), ("orders 0", "orders0"), ("outs 2", "outs 02"),
                         ("outs 2", "outs 2 "), ("outs 2", "outs  2"), ("outs 2", "withdraw 2"), ("outs 2", "outs 3"),
                         ("outs 2", "outs two"), ("outs 2", "outs 2:b"), ("outs 2", "outs"), ("outs 2", "outs "),
                         ("outs 2", "out 2"), ("outs 2", "undo"), ("outs 2", "outs \u0662"), ("4:a", "4:b"), ("4:a", "4"),
                         ("4:a", "04:a"), ("4:a", "4:a "), ("4:a", "4:A"), ("4:a", "2:b"), ("4:a", "0:a 4:a"),
                         ("4:a", "1:a"), ("4:a", "4 a"), ("builds", "build"), ("\n", "\r\n"), ("\n", "\n\n"), ("; ", ";"),
                         ("stay", "stand"), ("back 0 1", "back 0 2"), ("go 1", "go 2"), ("; 1 stay", ""), (" ", "\t")):
            self.assertIn(old, TEXT)
            self.bad_text(TEXT.replace(old, new))

    def test_texts_with_a_sign_exchanged(self):
        text = TEXT[:TEXT.index("builds")]
        for value in set(spoiled(text, "0 2b-;\n")):
            try:
                game = read_game(WHEEL, THREE[1], value)
            except BadText:
                continue
            self.assertEqual(value, plain_text(WHEEL, THREE[1], game.log))
            self.assertIsNone(first_wrong(WHEEL, THREE[1], game.log))

    def test_texts_that_were_read_are_those_of_games(self):
        lines = TEXT.split("\n")[:-1]
        for first in ("orders 0 stay; 1 stay; 4 stay", "orders 0 go 3; 1 go 2; 4 back 0 3", lines[0]):
            for second in ("outs 2", "outs -", "outs 4", "orders 0 stay; 1 stay; 4 stay"):
                text = f"{first}\n{second}\n"
                told = outcome(read_game, WHEEL, THREE[1], text)[:2]
                fits = (first == lines[0] and second in ("outs 2", "outs -")) or first == second
                self.assertEqual(fits, told[1] != "BadText", text)

    def test_values_of_all_kinds(self):
        for value in any_values():
            if value != "" or not isinstance(value, str):
                self.bad_text(value)

    def test_bad_boards_go_ahead(self):
        for value in (TEXT, "", "x", None, []):
            for chart, pieces in ((WHEEL, None), (None, ()), (WHEEL, ((0, 6),)), ((0, (), ()), ()), (WHEEL, [(0, 0)])):
                expected = ("raised", "BadBoard", shown({"error": error_of_board((chart, pieces))}))
                self.assertEqual(expected, call_alike(self, read_game, chart=chart, pieces=pieces, value=value))

    def test_errors_are_the_packages_own(self):
        self.assertTrue(issubclass(BadLog, OrderError) and issubclass(BadText, OrderError))


if __name__ == "__main__":
    unittest.main()
