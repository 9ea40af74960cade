"""Integers as the words of a text."""

DIGITS = "0123456789"
MOST_DIGITS = 10


def is_integer_word(word):
    """Tells whether the word stands for an integer: as short as can be, of at most ten digits."""
    digits = word.removeprefix("-")
    if not 1 <= len(digits) <= MOST_DIGITS or not all([sign in DIGITS for sign in digits]):
        return False
    return word == "0" or digits[0] != "0"
