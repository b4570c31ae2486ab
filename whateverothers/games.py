"""Whole games: rounds, withdrawals, years and builds, deed by deed."""
from whateverothers.boards import board_error
from whateverothers.bounds import MAX_EDITS, MAX_PLAYERS, MAX_YEARS
from whateverothers.ends import behind, pushed_out
from whateverothers.errors import BadBoard, BadOrders, NothingToUndo, NotNow, TooManyEdits, Unfit
from whateverothers.kinds import is_below
from whateverothers.ordering import orders_error
from whateverothers.years import are_news, holders_behind, pieces_with, wanted_by, winner_of


class Game:
    """A game as it stands, with the deeds that stand."""

    def __init__(self, chart, pieces):
        error = board_error((chart, pieces))
        if error is not None:
            raise BadBoard(error)
        self.board = (chart, pieces)
        self.phase = "orders"
        self.year = 0
        self.season = 0
        self.holders = holders_behind(self.board, (None,) * len(chart[2]))
        self.winner = None
        self.orders = None
        self.log = ()
        self._past = []

    def go_on(self, orders):
        """Settles orders; the round is over if nobody is pushed out by them. Returns the phase behind it."""
        self._check_phase("orders")
        error = orders_error(self.board, orders)
        if error is not None:
            raise BadOrders(error)
        self._keep("go_on", orders)
        if len(pushed_out(self.board, orders)) > 0:
            self.phase = "outs"
            self.orders = orders
        else:
            self._end_round(behind(self.board, orders, ()))
        return self.phase

    def withdraw(self, outs):
        """Lets the pieces that were pushed out withdraw, and ends the round. Returns the phase behind it."""
        self._check_phase("outs")
        pieces = behind(self.board, self.orders, outs)
        self._keep("withdraw", outs)
        self.orders = None
        self._end_round(pieces)
        return self.phase

    def build(self, news):
        """Sets new pieces, takes off those that are too many, and begins a year. Returns the phase behind it."""
        self._check_phase("builds")
        if not are_news(self.board, self.holders, news):
            raise Unfit()
        self._keep("build", news)
        self.board = (self.board[0], pieces_with(self.board, news))
        self._begin_year()
        return self.phase

    def undo(self):
        """Takes back the last deed that stands. Returns the phase that there was ahead of it."""
        if len(self._past) == 0:
            raise NothingToUndo()
        stand = self._past.pop()
        self.board, self.phase, self.year, self.season, self.holders, self.winner, self.orders = stand
        self.log = self.log[:-1]
        return self.phase

    def wanted(self, player):
        """How many centres the player holds, less how many pieces the player has."""
        if not is_below(player, MAX_PLAYERS):
            raise Unfit()
        return wanted_by(self.board, self.holders, player)

    def boards_ahead(self):
        """The boards that there were ahead of each of the deeds that stand, in order."""
        return [stand[0] for stand in self._past]

    def _check_phase(self, phase):
        if self.phase != phase:
            raise NotNow(self.phase)

    def _keep(self, word, argument):
        """Notes the deed, and how the game stands ahead of it, unless too many deeds stand."""
        if len(self.log) >= MAX_EDITS:
            raise TooManyEdits()
        stand = (self.board, self.phase, self.year, self.season, self.holders, self.winner, self.orders)
        self._past.append(stand)
        self.log = (*self.log, (word, argument))

    def _end_round(self, pieces):
        self.board = (self.board[0], pieces)
        if self.season == 0:
            self.season = 1
            self.phase = "orders"
        else:
            self._end_year()

    def _end_year(self):
        self.holders = holders_behind(self.board, self.holders)
        self.winner = winner_of(self.holders)
        if self.winner is not None or self.year == MAX_YEARS - 1:
            self.phase = "ended"
        elif any([self.wanted(player) != 0 for player in range(MAX_PLAYERS)]):
            self.phase = "builds"
        else:
            self._begin_year()

    def _begin_year(self):
        self.year += 1
        self.season = 0
        self.phase = "orders"
