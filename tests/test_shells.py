"""Shells [L1] to [L5]."""
import itertools
import random
import unittest

from tests.plain import FULL, THREE, WHEEL, all_orders
from tests.plaingames import GAMES, LINE, drawn_log, game_of
from tests.plainshell import PlainShell, own_text_of, text_of
from tests.plainsure import own_drawn
from tests.support import any_values, outcome, spoiled
from whateverothers.boardtexts import orders_text, pieces_text
from whateverothers.charttexts import chart_text
from whateverothers.gamelogs import game_text
from whateverothers.games import Game
from whateverothers.shells import Shell

WHEEL_TEXT = "5: 0-1 0-3 0-4 1-2 1-4 2-3 2-4 3-4; 0 2"
START = f"start {WHEEL_TEXT} / 0:a 1:b 4:a"
FOUR_START = f"start {WHEEL_TEXT} / 0:a 1:b 3:b 4:a"
PUSH = "orders 0 go 1; 1 stay; 4 back 0 1"
TO_BUILDS = (START, PUSH, "outs 2", "orders 1 go 0; 2 stay; 4 stay")
TO_WIN = ("start 3: 0-1 1-2; 0 2 / 0:d", "orders 0 go 1", "orders 1 go 2")
NEWS = ("start 5: 0-1 1-2 2-3 3-4; 0 2 4 / 0:a 4:b", "orders 0 go 1; 4 stay", "orders 1 go 2; 4 stay")
# Lines that lead to each phase.
PHASES = {"none": (), "orders": (START,), "outs": (START, PUSH), "builds": TO_BUILDS, "ended": TO_WIN}
LINES = (PUSH, "outs 2", "outs -", "outs - 3", "builds 4:a", "builds ", "undo", "show", "wanted b", "text",
         "settle 0 go 1; 1 go 4; 4 stay", "why 0 go 1; 1 stay; 4 back 0 1", "rings 0 go 1; 1 go 4; 4 go 0",
         "sure a 0 go 1; 4 back 0 1", "paper a 0 / 0 go 1; 4 stay", "least a 0 / 0 go 1; 4 stay",
         "known 0 go 1; 1 ?; 4 back 0 1 / 1:a 4:a", "plan a take 1, hold 4", START)


def led(*lines):
    shell = Shell()
    for line in lines:
        shell.say(line)
    return shell


class Told(unittest.TestCase):
    def told(self, shell, *pairs):
        """Each line is answered as told."""
        for line, answer in pairs:
            with self.subTest(line):
                self.assertEqual(answer, shell.say(line))

    def answered(self, lines, *pairs):
        """Each line, said twice to a shell that was led by lines, is answered as told: these are looks and errors."""
        for line, answer in pairs:
            shell = led(*lines)
            before = shell.say("show")
            with self.subTest(line):
                self.assertEqual([answer, answer], [shell.say(line), shell.say(line=line)])
                self.assertEqual(before, shell.say("show"))


class Deeds(Told):
    def test_a_session(self):
        self.told(Shell(), (START, "orders"), ("show", "year 0 round 0 orders; 0:a 1:b 4:a; 0:a 2:-"),
                  (PUSH, "outs 1>2"),
                  ("show", "year 0 round 0 outs; 0:a 1:b 4:a; 0:a 2:-"), ("undo", "orders"), (PUSH, "outs 1>2"),
                  ("outs 2", "orders"), ("show", "year 0 round 1 orders; 1:a 2:b 4:a; 0:a 2:-"), ("undo", "outs 1>2"),
                  ("outs -", "orders"), ("show", "year 0 round 1 orders; 1:a 4:a; 0:a 2:-"),
                  ("orders 1 go 2; 4 stay", "ended a"), ("show", "year 0 round 1 ended a; 2:a 4:a; 0:a 2:a"),
                  ("text", "orders 0 go 1; 1 stay; 4 back 0 1\nouts -\norders 1 go 2; 4 stay"),
                  ("orders 2 stay; 4 stay", "error NotNow"), ("undo", "orders"), ("undo", "outs 1>2"),
                  ("undo", "orders"),
                  ("undo", "error NothingToUndo"), ("text", "none"))

    def test_builds(self):
        self.told(led(*TO_BUILDS), ("show", "year 0 round 1 builds; 0:a 2:b 4:a; 0:a 2:b"), ("wanted a", "-1"),
                  ("builds ", "error Unfit"), ("builds 2:b", "error Unfit"), ("builds 4:b", "error Unfit"),
                  ("builds 4:a 0:a", "error BadText"), ("builds 4:a", "orders"),
                  ("show", "year 1 round 0 orders; 0:a 2:b; 0:a 2:b"), ("undo", "builds"), ("builds 0:a", "orders"),
                  ("text", "orders 0 go 1; 1 stay; 4 back 0 1\nouts 2\norders 1 go 0; 2 stay; 4 stay\nbuilds 0:a"))

    def test_news(self):
        self.told(led(*NEWS), ("show", "year 0 round 1 ended a; 2:a 4:b; 0:a 2:a 4:b"))
        lines = ("start 5: 0-1 1-2 2-3 3-4; 0 2 / 0:a 4:b", "orders 0 stay; 4 go 3", "orders 0 stay; 3 go 2")
        self.told(led(*lines), ("show", "year 1 round 0 orders; 0:a 2:b; 0:a 2:b"))
        lines = ("start 6: 0-1 1-2 2-3 3-4 4-5; 0 2 4 5 / 0:a 4:b", "orders 0 go 1; 4 stay", "orders 1 go 2; 4 stay")
        self.told(led(*lines), ("wanted a", "1"), ("wanted b", "0"), ("builds 2:a", "error Unfit"),
                  ("builds 5:a", "error Unfit"), ("builds ", "orders"), ("undo", "builds"), ("builds 0:a", "orders"),
                  ("show", "year 1 round 0 orders; 0:a 2:a 4:b; 0:a 2:a 4:b 5:-"))

    def test_several_are_pushed_out(self):
        crowd = "start 7: 0-1 0-4 0-5 2-3 2-4 2-6; / 0:a 1:b 2:a 3:b 5:b 6:b"
        shove = "orders 0 stay; 1 go 0; 2 stay; 3 go 2; 5 back 1 0; 6 back 3 2"
        self.told(led(crowd), (shove, "outs 0>4 2>4"), ("outs 4", "error Unfit"), ("outs 4 4 4", "error Unfit"),
                  ("outs 4 4", "orders"), ("show", "year 0 round 1 orders; 0:b 2:b 5:b 6:b; none"),
                  ("undo", "outs 0>4 2>4"),
                  ("outs - 4", "orders"), ("undo", "outs 0>4 2>4"), ("outs - -", "orders"))

    def test_exits_of_several_fields_and_of_none(self):
        self.told(led(f"start {WHEEL_TEXT} / 0:a 1:b 2:b 4:a"),
                  ("orders 0 go 1; 1 go 4; 2 back 1 4; 4 back 0 1", "outs 4>0,3"),
                  ("outs 1", "error Unfit"), ("outs 3", "orders"))
        self.told(led("start 3: 0-1 1-2; / 0:a 1:a 2:b"), ("orders 0 stay; 1 stay; 2 go 1", "orders"))
        self.told(led("start 3: 0-1 0-2 1-2; / 0:b 1:a 2:b"), ("orders 0 go 1; 1 stay; 2 back 0 1", "outs 1>-"),
                  ("outs 2", "error Unfit"), ("outs -", "orders"))

    def test_a_new_game_in_the_place_of_the_one_that_there_was(self):
        for lines in PHASES.values():
            self.told(led(*lines), ("start 1:; / ", "orders"), ("show", "year 0 round 0 orders; none; none"),
                      ("undo", "error NothingToUndo"))

    def test_a_start_that_fails_leaves_the_game(self):
        for lines in PHASES.values():
            shell = led(*lines)
            before = shell.say("show")
            self.told(shell, ("start 1: / ", "error BadText"), ("start 1:; / 1:a", "error BadText"),
                      ("start 1:;/", "what"), ("start", "what"), ("show", before))

    def test_the_end_without_a_winner(self):
        shell, stays = led("start 2: 0-1; 0 1 / 0:a 1:b"), "orders 0 stay; 1 stay"
        for _ in range(59):
            self.assertEqual("orders", shell.say(stays))
        self.told(shell, (stays, "ended"), ("show", "year 29 round 1 ended; 0:a 1:b; 0:a 1:b"), (stays, "error NotNow"),
                  ("undo", "orders"), ("show", "year 29 round 1 orders; 0:a 1:b; 0:a 1:b"), (stays, "ended"))
        self.assertEqual(60, len(shell.say("text").split("\n")))


class Looks(Told):
    def test_nothing_of_anything(self):
        self.answered(("start 1:; / ",), ("show", "year 0 round 0 orders; none; none"), ("text", "none"),
                      ("wanted f", "0"), ("settle ", "none"), ("why ", "none"), ("rings ", "none"), ("sure a ", "none"),
                      ("known  / ", "none"), ("plan a shut 0", "none"), ("plan a hold 0", "none"),
                      ("known  / 0:a", "error Unfit"), ("paper a 0 / ", "error Unfit"), ("least a 0 / ", "error Unfit"))

    def test_settle(self):
        self.answered((START,), ("settle 0 go 1; 1 stay; 4 back 0 1", "0+ 1+ 4+"),
                      ("settle 0 go 1; 1 go 4; 4 stay", "0- 1- 4+"), ("settle 0 go 1; 1 go 4; 4 go 0", "0+ 1+ 4+"),
                      ("settle 0 go 1; 1 stay", "error BadText"), ("settle ", "error BadText"))

    def test_why(self):
        self.answered((START,), ("why 0 go 1; 1 stay; 4 back 0 1", "0 beats 1; 1 pushed 0; 4 stands"),
                      ("why 0 go 3; 1 stay; 4 back 0 1", "0 free; 1 stays; 4 unfit"),
                      ("why 0 go 1; 1 go 4; 4 back 0 1", "0 beats 1; 1 held 2; 4 stands"), ("why x", "error BadText"))

    def test_rings(self):
        self.answered((START,), ("rings 0 go 1; 1 go 4; 4 go 0", "0>1>4"), ("rings 0 go 4; 1 go 0; 4 go 1", "0>4>1"),
                      ("rings 0 stay; 1 stay; 4 stay", "none"), ("rings ?", "error BadText"))
        two = "start 6: 0-1 0-2 1-2 3-4 3-5 4-5; / 0:a 1:b 2:a 3:b 4:b 5:c"
        self.answered((two,), ("rings 0 go 1; 1 go 2; 2 go 0; 3 go 5; 4 go 3; 5 go 4", "0>1>2 3>5>4"))

    def test_sure(self):
        self.answered((START,), ("sure a 0 go 1; 4 back 0 1", "0+ 4+"), ("sure b 1 stay", "1-"), ("sure f ", "none"),
                      ("sure a 0 go 4; 4 go 0", "error Unfit"), ("sure a 0 back 1 1; 4 stay", "error Unfit"),
                      ("sure a 0 go 3; 4 go 3", "error Unfit"), ("sure a 0 go 4; 4 stay", "error Unfit"),
                      ("sure a 0 go 1; 1 stay", "error BadText"), ("sure a 4 stay; 0 stay", "error BadText"),
                      ("sure a 0 go 2; 4 stay", "error BadText"), ("sure a ", "error BadText"),
                      ("sure b 0 go 1; 4 back 0 1", "error BadText"), ("sure f 0 stay", "error BadText"),
                      ("sure a 0 go 1; 1 stay; 4 back 0 1", "error BadText"), ("sure a 0 go 1; 4 ?", "error BadText"))

    def test_paper(self):
        self.answered((START,), ("paper a 0 / 0 go 1; 4 back 0 1", "sure"), ("paper a 4 / 0 go 1; 4 back 0 1", "sure"),
                      ("paper a 0 / 0 go 1; 4 stay", "broken 0 go 1; 1 stay; 4 stay"),
                      ("paper a 1 / 0 go 1; 4 stay", "error Unfit"), ("paper a 2 / 0 go 1; 4 stay", "error Unfit"),
                      ("paper a 999999999 / 0 go 1; 4 stay", "error Unfit"),
                      ("paper a 9999999999 / 0 go 1; 4 stay", "what"),
                      ("paper a 00 / 0 go 1; 4 stay", "what"), ("paper a 0 / 0 go 4; 4 go 0", "error Unfit"),
                      ("paper a 1 / 0 go 1", "error BadText"), ("paper b 1 / 0 go 1; 4 stay", "error BadText"),
                      ("paper a 0 / 0 go 1; 4 stay / ", "error BadText"), ("paper a 0 / ", "error BadText"),
                      ("paper f 0 / ", "error Unfit"))

    def test_least(self):
        self.answered((START,), ("least a 0 / 0 go 1; 4 stay", "0 go 1; 4 back 0 1"),
                      ("least a 0 / 0 go 1; 4 back 0 1", "0 go 1; 4 back 0 1"),
                      ("least a 4 / 0 stay; 4 stay", "0 stay; 4 stay"),
                      ("least a 0 / 0 go 1; 4 go 3", "none"), ("least a 1 / 0 stay; 4 stay", "error Unfit"),
                      ("least a 0 / 0 go 1; 4 go 1", "error Unfit"), ("least a 0 / 0 go 1", "error BadText"))
        self.answered((FOUR_START,), ("least a 0 / 0 go 1; 4 stay", "none"),
                      ("least a 4 / 0 stay; 4 stay", "0 back 4 4; 4 stay"))

    def test_known(self):
        self.answered((START,), ("known 0 go 1; 1 ?; 4 back 0 1 / 1:a 4:a", "0 go 1; 1 ?; 4 back 0 1"),
                      ("known 0 go 1; 1 ?; 4 back 0 1 / 1:a 2:b 4:a", "0 go 1; 1 go 2; 4 back 0 1"),
                      ("known 0 ?; 1 stay; 4 ? / 1:a 4:a", "0 go 1; 1 stay; 4 back 0 1"),
                      ("known 0 stay; 1 stay; 4 stay / 0:a 1:b 4:a", "0 stay; 1 stay; 4 stay"),
                      ("known 0 go 1; 1 ?; 4 back 0 1 / 0:a 1:b 4:a", "error Unfit"),
                      ("known 0 stay; 1 stay; 4 stay / ", "error Unfit"),
                      ("known 0 ?; 1 ?; 4 ? / 1:a 4:a", "error BadText"), ("known 0 ?; 1 ? / 1:a 4:a", "error BadText"),
                      ("known 1 ?; 0 stay; 4 stay / 1:a 4:a", "error BadText"), ("known ? / 1:a 4:a", "error BadText"),
                      ("known 0 go ?; 1 stay; 4 stay / 1:a", "error BadText"),
                      ("known 0 stay; 1 ?; 4 stay / 5:a", "error BadText"),
                      ("known 0 stay; 1 ?; 4 stay / 1:a 0:b", "error BadText"),
                      ("known 0 ??; 1 stay; 4 stay / ", "error BadText"),
                      ("known 0 stay; 1 ?; 4 stay", "what"), ("known 0 stay; 1 ?; 4 stay /", "what"))

    def test_known_of_too_many(self):
        full = f"start {chart_text(FULL)} / " + " ".join(f"{field}:a" for field in range(16))
        told = "; ".join([f"{field} ?" for field in (0, 1)] + [f"{field} stay" for field in range(2, 16)])
        self.answered((full,), (f"known {told} / ", "error TooMany"), (f"known {told} / 24:a", "error BadText"))

    def test_plan(self):
        self.answered((START,), ("plan a take 1", "0 go 1; 4 back 0 1"),
                      ("plan a hold 4, take 1", "0 go 1; 4 back 0 1"),
                      ("plan a take 0", "none"), ("plan f shut 3", "none"), ("plan b take 2", "none"),
                      ("plan a shut 2, hold 0", "0 stay; 4 go 2"), ("plan a take 5", "error BadText"),
                      ("plan a take 1, take 1", "error BadText"), ("plan a hold 4, take 1, hold 4", "error BadText"),
                      ("plan a ", "error BadText"), ("plan a take", "error BadText"),
                      ("plan a take 01", "error BadText"), ("plan a take 1,hold 4", "error BadText"),
                      ("plan a take 1, ", "error BadText"), ("plan a keep 1", "error BadText"), ("plan a", "what"),
                      ("plan g take 1", "what"), ("plan a take 0, hold 0, shut 0, take 1", "none"),
                      ("plan a take 0, hold 0, shut 0, take 1, take 2", "error BadText"),
                      ("plan a Take 1", "error BadText"),
                      ("plan a take 1; hold 4", "error BadText"), ("plan a take  1", "error BadText"))
        crowd = f"start {WHEEL_TEXT} / 0:a 1:a 2:a 3:a 4:a"
        self.answered((crowd,), ("plan a hold 0", "error TooMany"), ("plan a hold 5", "error BadText"),
                      ("plan b hold 0", "none"))

    def test_wanted(self):
        answers = zip("abcdef", ("-1", "-1", "0", "0", "0", "0"))
        self.answered((START,), *[(f"wanted {letter}", answer) for letter, answer in answers])
        wrong = ("g", "A", "aa", "", " ", "0", "a ", " a")
        self.answered((START,), *[(f"wanted {letter}", "what") for letter in wrong])

    def test_in_each_phase_by_the_board_that_there_is(self):
        for phase in ("orders", "outs"):
            self.answered(PHASES[phase], ("settle 0 go 1; 1 stay; 4 back 0 1", "0+ 1+ 4+"),
                          ("sure a 0 go 1; 4 back 0 1", "0+ 4+"),
                          ("plan a take 1", "0 go 1; 4 back 0 1"))
        self.answered(PHASES["builds"], ("settle 0 go 1; 2 stay; 4 back 0 1", "0+ 2+ 4+"), ("sure b 2 stay", "2+"),
                      ("settle 0 go 1; 1 stay; 4 back 0 1", "error BadText"), ("wanted a", "-1"), ("wanted b", "0"))
        self.answered(PHASES["ended"], ("settle 2 stay", "2+"), ("wanted d", "1"), ("plan d take 1", "2 go 1"),
                      ("known 2 ? / 1:d", "2 go 1"), ("paper d 2 / 2 stay", "sure"),
                      ("text", "orders 0 go 1\norders 1 go 2"))

    def test_a_field_of_several_figures(self):
        start = "start 24: 10-23 11-23; 23 / 10:a 11:b 23:c"
        self.answered((start,), ("settle 10 go 23; 11 back 10 23; 23 stay", "10+ 11+ 23+"),
                      ("paper a 10 / 10 go 23", "broken 10 go 23; 11 back 23 23; 23 stay"),
                      ("why 10 go 23; 11 back 10 23; 23 stay", "10 beats 2; 11 stands; 23 pushed 0"),
                      ("known 10 ?; 11 back 10 23; 23 stay / 11:b 23:a", "10 go 23; 11 back 10 23; 23 stay"))


class Refused(Told):
    def test_what_is_no_line(self):
        for lines in PHASES.values():
            shell = led(*lines)
            for line in ("", " ", "Show", "show ", " show", "show  ", "undo ", "text\n", "text ", "orders", "outs",
                         "builds",
                         "start", "start ", "start x", "start x /", "start x/y", "start / x", "settle", "why", "rings",
                         "wanted",
                         "wanted ", "wanted  a", "sure", "sure ", "sure a", "sure g x", "sure  a x", "paper a 0",
                         "paper a / x",
                         "paper 0 a / x", "paper a 0/ x", "paper a 0 /x", "paper a -1 / x", "paper a  0 / x",
                         "paper  / x",
                         "least a 01 / ", "least a 1234567890 / ", "least a 0  / ", "known", "known ", "known x",
                         "known x /",
                         "known /", "plan a", "plan", "plan ", "plan ab take 1", "ended", "withdraw 2", "go_on x",
                         "help", "what",
                         "none", "orders\t0 stay", "ORDERS 0 stay", "show\n", "\nshow", "wanted a\n", "/", " / ", "0"):
                with self.subTest(line):
                    self.assertEqual("what", shell.say(line))

    def test_no_game(self):
        shell = Shell()
        for line in (*LINES, "orders ", "outs ", "outs x", "settle x", "sure a ", "paper a 0 / ", "known  / ",
                     "plan f x"):
            if not line.startswith("start"):
                self.told(shell, (line, "no game"))
        self.told(shell, ("start x / y", "error BadText"), ("show", "no game"), ("start  / ", "error BadText"),
                  ("show", "no game"), ("start 1:; / ", "orders"), ("show", "year 0 round 0 orders; none; none"))

    def test_not_now_goes_ahead_of_bad_text(self):
        deeds = {"orders": "orders", "outs": "outs", "builds": "builds"}
        for phase in ("orders", "outs", "builds", "ended"):
            for word in deeds:
                for text in ("", "x", "0 stay", "1234567890", "-", "4:a", "0 go 1; 1 stay; 4 back 0 1"):
                    if phase != word:
                        self.answered(PHASES[phase], (f"{word} {text}", "error NotNow"))

    def test_bad_text_goes_ahead_of_unfit(self):
        self.answered(PHASES["outs"], ("outs ", "error BadText"), ("outs x", "error BadText"),
                      ("outs 1234567890", "error BadText"),
                      ("outs 123456789", "error Unfit"), ("outs 02", "error BadText"), ("outs 2 ", "error BadText"),
                      ("outs  2", "error BadText"), ("outs --", "error BadText"), ("outs 2 x", "error BadText"),
                      ("outs 2 2", "error Unfit"), ("outs - -", "error Unfit"), ("outs 4", "error Unfit"),
                      ("outs -2", "error BadText"),
                      ("outs None", "error BadText"), ("outs 2\n", "error BadText"))
        self.answered(PHASES["builds"], ("builds x", "error BadText"), ("builds 5:a", "error BadText"),
                      ("builds 4:g", "error BadText"),
                      ("builds 4:a 4:a", "error BadText"), ("builds  4:a", "error BadText"),
                      ("builds 0:a 4:a", "error Unfit"),
                      ("builds 1:b", "error Unfit"), ("builds 04:a", "error BadText"))
        self.answered(PHASES["orders"], ("orders ", "error BadText"), ("orders 0 go 1; 1 stay", "error BadText"),
                      ("orders undo", "error BadText"),
                      ("orders 0 go 2; 1 stay; 4 stay", "error BadText"),
                      ("orders 0 go 1; 1 stay; 4 ?", "error BadText"),
                      ("orders 0 go 1;1 stay; 4 stay", "error BadText"),
                      ("orders 0 go 01; 1 stay; 4 stay", "error BadText"))

    def test_values_of_all_kinds(self):
        for lines in PHASES.values():
            shell, plain = led(*lines), PlainShell()
            for line in lines:
                plain.say(line)
            for value in any_values():
                self.assertEqual(plain.say(value), shell.say(value))
                if not isinstance(value, str):
                    self.assertEqual("what", shell.say(value))
                else:
                    for head in ("start ", "orders ", "outs ", "builds ", "settle ", "plan a ", "sure a ", "known ",
                                 "paper a 0 / ",
                                 "wanted "):
                        self.assertEqual(plain.say(head + value), shell.say(head + value), head)

    def test_say_is_the_only_method(self):
        self.assertEqual(["say"], [name for name in vars(Shell) if not name.startswith("_")])


class BesideThePlainOne(unittest.TestCase):
    def both(self, *lines):
        shells = (Shell(), PlainShell())
        for line in lines:
            self.say(shells, line)
        return shells

    def say(self, shells, line):
        answers = [outcome(shell.say, line) for shell in shells]
        self.assertEqual(answers[1], answers[0], line)
        return answers[0]

    def test_spoilt_lines_in_each_phase(self):
        for at, (phase, lines) in enumerate(PHASES.items()):
            shells = self.both(*lines)
            for line in LINES:
                for spoilt in itertools.islice(spoiled(line, " /;?0a-"), at % 3, None, 3):
                    self.say(shells, spoilt)
                    if shells[1].say("show") != self.both(*lines)[1].say("show"):
                        shells = self.both(*lines)

    def test_parts_exchanged(self):
        owns = ("0 go 1; 4 back 0 1", "4 back 0 1; 0 go 1", "0 go 1", "4 stay", "0 go 1; 0 go 1",
                "0 go 1; 4 back 0 1; 4 stay",
                "0 go 1; 1 stay", "1 stay; 4 stay", "0 go 4; 4 go 0", "", "0 ?; 4 stay", "0 go 1; 1 ?; 4 stay",
                "0 ?; 1 ?; 4 stay",
                "0 ?; 1 ?; 4 ?", "1 ?; 0 ?; 4 stay", "0 ?", "0 stay; 1 ?; 4 ?", "?; ?; ?", "0 ?; 1 stay; 4 back 0 1")
        for lines in (PHASES["orders"], PHASES["outs"]):
            shells = self.both(*lines)
            for own, letter, field in itertools.product(owns, "abg", ("0", "1", "4", "2", "")):
                for line in (f"sure {letter} {own}", f"paper {letter} {field} / {own}",
                             f"least {letter} {field} / {own}",
                             f"known {own} / 1:a 4:a", f"settle {own}"):
                    self.say(shells, line)

    def drawn_line(self, draw, board):
        """A look, mostly with texts that are right."""
        orders = tuple(draw.choice(all_orders(board, place)) for place in range(len(board[1])))
        player = draw.randrange(6)
        own, letter = own_drawn(draw, board, player), "abcdef"[player]
        fields = [field for field, owner in board[1] if owner == player] or [0]
        own_text = own_text_of(board, own)
        hidden = tuple(None if draw.random() < 0.25 else item for item in orders)
        words = [draw.choice(("take", "hold", "shut")) for _ in range(draw.randint(1, 2))]
        wishes = ", ".join(f"{word} {draw.randrange(board[0][0])}" for word in words)
        seen = pieces_text(tuple(piece for piece in board[1] if draw.random() < 0.9))
        field = draw.choice(fields)
        return draw.choice(("show", "text", f"wanted {letter}", f"settle {orders_text(board, orders)}",
                            f"why {orders_text(board, orders)}", f"rings {orders_text(board, orders)}",
                            f"sure {letter} {own_text}",
                            f"paper {letter} {field} / {own_text}", f"least {letter} {field} / {own_text}",
                            f"known {text_of(board, hidden)} / {seen}", f"plan {letter} {wishes}"))

    def test_whole_games_with_looks(self):
        for seed, (chart, pieces) in enumerate(GAMES):
            draw = random.Random(seed)
            log = drawn_log(seed, chart, pieces, 14)
            lines = game_text(game_of(chart, pieces, *log)).split("\n")[:-1]
            shells = self.both(f"start {chart_text(chart)} / {pieces_text(pieces)}")
            for line in lines:
                for _ in range(8):
                    look = self.drawn_line(draw, shells[1].game.board)
                    before = self.say(shells, "show")
                    self.assertEqual(self.say(shells, look), self.say(shells, look), look)
                    self.assertEqual(before, self.say(shells, "show"))
                if draw.random() < 0.2:
                    self.say(shells, "undo")
                    self.say(shells, line)
                self.say(shells, line)

    def test_two_shells_led_in_turns(self):
        one, other = Shell(), Shell()
        self.assertEqual("orders", one.say(START))
        self.assertEqual("no game", other.say("show"))
        self.assertEqual("orders", other.say(FOUR_START))
        self.assertEqual("outs 1>2", one.say(PUSH))
        self.assertEqual("year 0 round 0 orders; 0:a 1:b 3:b 4:a; 0:a 2:-", other.say("show"))
        self.assertEqual("orders", other.say("orders 0 stay; 1 stay; 3 stay; 4 stay"))
        self.assertEqual("year 0 round 0 outs; 0:a 1:b 4:a; 0:a 2:-", one.say("show"))
        self.assertEqual("orders", one.say("outs 2"))
        self.assertEqual("orders 0 stay; 1 stay; 3 stay; 4 stay", other.say("text"))


class Together(unittest.TestCase):
    """[L5]: a shell's answers are those of the game led by the same deeds."""

    def test_lines_of_the_text_do_the_same_deeds(self):
        for seed in range(12):
            chart, pieces = GAMES[seed % len(GAMES)]
            start = f"start {chart_text(chart)} / {pieces_text(pieces)}"
            shell, again, game = led(start), led(start), Game(chart, pieces)
            log = drawn_log(200 + seed, chart, pieces, 60)
            for line in game_text(game_of(chart, pieces, *log)).split("\n")[:-1]:
                shell.say(line)
            for word, argument in log:
                getattr(game, word)(argument)
            self.assertEqual(game_text(game)[:-1], shell.say("text"))
            for line in shell.say("text").split("\n"):
                again.say(line)
            for line in ("show", "text", *[f"wanted {letter}" for letter in "abcdef"]):
                self.assertEqual(shell.say(line), again.say(line))
            self.assertEqual([str(game.wanted(player)) for player in range(6)],
                             [shell.say(f"wanted {letter}") for letter in "abcdef"])
            self.check_shown(game, shell.say("show"))

    def check_shown(self, game, shown_text):
        head, pieces, centres = shown_text.split("; ")
        self.assertEqual(f"year {game.year} round {game.season} {game.phase}",
                         head[:-2] if game.winner is not None else head)
        self.assertEqual(pieces_text(game.board[1]) or "none", pieces)
        held = ["-" if player is None else "abcdef"[player] for player in game.holders]
        self.assertEqual(" ".join(f"{centre}:{letter}" for centre, letter in zip(game.board[0][2], held)), centres)

    def test_no_line_raises_anything(self):
        shell = led(START)
        for line in (*LINES, *["x" * 20000, "orders " + "9" * 19000, "plan a " + "take 1, " * 2000,
                               "sure a " + "; " * 5000,
                               f"start {'9' * 5000}:; / ", "known " + " / " * 3000,
                               "paper a 0 / " + "0 stay; " * 2000]):
            self.assertIsInstance(shell.say(line), str)

    def test_starts_of_the_games_of_others(self):
        self.assertEqual("year 0 round 0 orders; 0:a 1:b 4:a; 0:a 2:-",
                         led(f"start {chart_text(WHEEL)} / {pieces_text(THREE[1])}").say("show"))
        self.assertEqual("year 0 round 0 orders; 0:d; 0:d 2:-", led(f"start {chart_text(LINE)} / 0:d").say("show"))


if __name__ == "__main__":
    unittest.main()
