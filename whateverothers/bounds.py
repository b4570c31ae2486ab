"""The bounds of charts, boards, games and searches."""

MAX_FIELDS = 24
MAX_PLAYERS = 6
MAX_PIECES = 16
MAX_HIDDEN = 2
MAX_TRIED = 20000
MAX_YEARS = 30
MAX_EDITS = 160
