"""Lines said to a shell: their words and parts."""
from whateverothers.boardtexts import player_told
from whateverothers.kinds import integer_told

# What stands behind a word.
NOTHING = ("undo", "show", "text")
LETTER = ("wanted",)
A_TEXT = ("orders", "outs", "builds", "settle", "why", "rings")
TWO_TEXTS = ("start", "known")
LETTER_AND_TEXT = ("sure", "plan")
LETTER_FIELD_AND_TEXT = ("paper", "least")
PARTING = " / "


def line_told(value):
    """The word of a line and its parts, players and fields as integers; None if value is no line."""
    if not isinstance(value, str):
        return None
    if value in NOTHING:
        return (value,)
    word, blank, behind = value.partition(" ")
    if blank == "":
        return None
    parts = _parts_told(word, behind)
    if parts is None or None in parts:
        return None
    return (word, *parts)


def _parts_told(word, text):
    """The parts of text behind this word, with None for what has to be there and is not; None if there is no such."""
    if word in A_TEXT:
        return (text,)
    if word in LETTER:
        return (player_told(text),)
    if word in LETTER_AND_TEXT:
        letter, more = _two_parts(text, " ")
        return (player_told(letter), more)
    if word in TWO_TEXTS:
        return _two_parts(text, PARTING)
    if word in LETTER_FIELD_AND_TEXT:
        head, more = _two_parts(text, PARTING)
        letter, field = _two_parts(head, " ")
        return (player_told(letter), None if field is None else integer_told(field), more)
    return None


def _two_parts(text, mark):
    """What stands ahead of the first mark in text, and what behind it; None for the latter if there is no mark."""
    ahead, found, behind = text.partition(mark)
    return (ahead, behind if found == mark else None)
