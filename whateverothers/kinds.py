"""What integers and tuples are here, and how integers are read."""

# No number in a text has a use for more figures, and Python refuses to read very long ones.
MAX_FIGURES = 9


def is_integer(value):
    """Whether value is an integer: True and False are none."""
    return isinstance(value, int) and not isinstance(value, bool)


def is_below(value, limit):
    """Whether value is an integer from 0 to limit - 1."""
    return is_integer(value) and 0 <= value < limit


def is_tuple_of(value, many):
    """Whether value is a tuple of so many items."""
    return isinstance(value, tuple) and len(value) == many


def integer_told(word):
    """The integer that word writes in decimal, without noughts ahead; None if it writes none."""
    # isdigit alone lets figures of other scripts by.
    if len(word) > MAX_FIGURES or not word.isascii() or not word.isdigit():
        return None
    if word.startswith("0") and len(word) > 1:
        return None
    return int(word)
