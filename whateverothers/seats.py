"""A table: a game whose players hand in unseen what their own pieces are to do."""
from whateverothers.bounds import MAX_PLAYERS
from whateverothers.errors import NotNow, Unfit
from whateverothers.gamelogs import game_lines
from whateverothers.games import Game
from whateverothers.handing import is_thing, news_handed_in, orders_handed_in, outs_handed_in
from whateverothers.kinds import is_below


class Table:
    """Leads a game by what players hand in; the journal has the texts of all deeds that were done."""

    def __init__(self, chart, pieces):
        self._game = Game(chart, pieces)
        self._things = {}
        self.journal = ()

    def hand_in(self, player, thing):
        """Keeps thing as what this player hands in, in the place of what it handed in before."""
        self._check_player(player)
        self._check_not_ended()
        if not is_thing(self._game, player, thing):
            raise Unfit()
        self._things[player] = thing

    def take_back(self, player):
        """Lets go what this player has handed in."""
        self._check_player(player)
        if player not in self._things:
            raise Unfit()
        del self._things[player]

    def close(self):
        """Lets the game go on by one deed, made of all that is handed in. Returns the phase then."""
        self._check_not_ended()
        things = self._things
        if self._game.phase == "orders":
            self._game.go_on(orders_handed_in(self._game, things))
        elif self._game.phase == "outs":
            self._game.withdraw(outs_handed_in(self._game, things))
        else:
            self._game.build(news_handed_in(self._game, things))
        self._things = {}
        self.journal = tuple(game_lines(self._game))
        return self._game.phase

    def view(self, player):
        """What this player sees: how the game stands, what it has handed in itself, and who has."""
        self._check_player(player)
        game = self._game
        return (game.year, game.season, game.phase, game.board, game.holders, game.winner, self._things.get(player),
                tuple(sorted(self._things)))

    def _check_player(self, player):
        if not is_below(player, MAX_PLAYERS):
            raise Unfit()

    def _check_not_ended(self):
        if self._game.phase == "ended":
            raise NotNow("ended")
