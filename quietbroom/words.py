"""Numbers, references and nil as words."""

MIN_NUMBER = -2147483648
MAX_NUMBER = 2147483647
NIL = 0
ZERO = 1

NUMBER_COUNT = 4294967296


def wrap(n):
    """The only number that differs from n by a multiple of 4294967296."""
    return (n - MIN_NUMBER) % NUMBER_COUNT + MIN_NUMBER


def number_word(n):
    """The word of the number that n wraps to."""
    return 2 * wrap(n) + 1


def reference_word(address):
    """The word of a reference to this address."""
    return 2 * address


def is_number(word):
    """Tells whether the word is one of a number."""
    return word % 2 == 1


def is_reference(word):
    """Tells whether the word is one of a reference; nil is none."""
    return word % 2 == 0 and word != NIL


def number_of(word):
    """The number of a number word."""
    return (word - 1) // 2


def address_of(word):
    """The address of a reference word, and 0 for nil."""
    return word // 2
