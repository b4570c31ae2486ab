"""A shell: a game led by lines."""
from whateverothers.boardtexts import read_pieces
from whateverothers.charttexts import read_chart
from whateverothers.errors import OrderError
from whateverothers.gamelogs import do_told
from whateverothers.games import Game
from whateverothers.lines import line_told
from whateverothers.looks import look_told, phase_row

# Phases, and the words of the lines by which their deeds are done.
DEED_PHASES = ("orders", "outs", "builds")


class Shell:
    """Leads a game; at first it has none."""

    def __init__(self):
        self._game = None

    def say(self, line):
        """The answer to line, which may be any value."""
        told = line_told(line)
        if told is None:
            return "what"
        if told[0] != "start" and self._game is None:
            return "no game"
        try:
            if told[0] == "start":
                self._game = _new_game(told[1], told[2])
                return phase_row(self._game)
            return _answer(self._game, told)
        except OrderError as error:
            name = type(error).__name__
            return f"error {name}"


def _new_game(chart_told, pieces_told):
    chart = read_chart(chart_told)
    return Game(chart, read_pieces(chart, pieces_told))


def _answer(game, told):
    """The answer to a line, told as a word and its parts, of a deed or a look; raises what these raise."""
    if told[0] == "undo":
        game.undo()
        return phase_row(game)
    if told[0] in DEED_PHASES:
        do_told(game, told[0], told[1])
        return phase_row(game)
    return look_told(game, told)
