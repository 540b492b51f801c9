"""What integers, names and numbers are, wherever they stand."""

_MOST_LETTERS = 8
# Python itself refuses to read numbers that are much longer.
_MOST_DIGITS = 4000


def is_integer(value):
    """Tell whether this is an integer; True and False are none."""
    return isinstance(value, int) and not isinstance(value, bool)


def is_name(value):
    """Tell whether this is a string of one to eight letters from a to z."""
    if not isinstance(value, str) or not 1 <= len(value) <= _MOST_LETTERS:
        return False
    return all(["a" <= letter <= "z" for letter in value])


def read_number(word):
    """Return the integer that stands there in digits without needless zeros, or None."""
    if not 1 <= len(word) <= _MOST_DIGITS or (word[0] == "0" and word != "0"):
        return None
    # Not isdigit: there are digits that are none from 0 to 9.
    if not all(["0" <= digit <= "9" for digit in word]):
        return None
    return int(word)


def is_index(value, many):
    """Tell whether this is an integer from 0 to below this many."""
    return is_integer(value) and 0 <= value < many
