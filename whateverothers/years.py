"""What comes of a year: who holds the centres, who has won, what players want, and what is built or taken off."""
from whateverothers.boards import place_in
from whateverothers.bounds import MAX_PIECES, MAX_PLAYERS
from whateverothers.kinds import is_below, is_tuple_of


def holders_behind(board, holders):
    """Who holds each centre once the pieces on centres have taken these; it stays who holds the others."""
    players = dict(board[1])
    return tuple([players.get(centre, holder) for centre, holder in zip(board[0][2], holders)])


def winner_of(holders):
    """The player who holds more than half of all centres, None if nobody does."""
    for player in range(MAX_PLAYERS):
        if 2 * holders.count(player) > len(holders):
            return player
    return None


def wanted_by(board, holders, player):
    """How many centres the player holds, less how many pieces the player has."""
    return holders.count(player) - len(own_fields_of(board, player))


def are_news(board, holders, value):
    """Whether value tells what may be built and has to be taken off, and nothing else."""
    if not isinstance(value, tuple) or not _are_ascending_pairs(board[0], value):
        return False
    if not all([are_news_of(board, holders, player, value) for player in range(MAX_PLAYERS)]):
        return False
    return len(pieces_with(board, value)) <= MAX_PIECES


def pieces_with(board, news):
    """The pieces behind the news: those of them that stood are taken off, all others are new ones."""
    left = [piece for piece in board[1] if piece not in news]
    new = [piece for piece in news if piece not in board[1]]
    return tuple(sorted(left + new))


def are_news_of(board, holders, player, news):
    """Whether the news tell of this player what they may tell, by what it wants."""
    fields = [field for field, owner in news if owner == player]
    wants = wanted_by(board, holders, player)
    if wants > 0:
        return len(fields) <= wants and all([_can_build(board, holders, player, field) for field in fields])
    standing = own_fields_of(board, player)
    return len(fields) == -wants and all([field in standing for field in fields])


def own_fields_of(board, player):
    """The fields of all pieces of the player, ascending."""
    return [field for field, owner in board[1] if owner == player]


def _are_ascending_pairs(chart, items):
    """Whether all items are pairs of a field and a player, each greater than the one ahead."""
    for place, item in enumerate(items):
        if not is_tuple_of(item, 2) or not is_below(item[0], chart[0]) or not is_below(item[1], MAX_PLAYERS):
            return False
        if place > 0 and item <= items[place - 1]:
            return False
    return True


def _can_build(board, holders, player, field):
    """Whether field is a centre that the player holds, and is free."""
    held = [centre for centre, holder in zip(board[0][2], holders) if holder == player]
    return field in held and place_in(board, field) is None
