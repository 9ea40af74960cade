"""Names, and the shapes that objects have."""

from quietbroom.sequences import frozen
from quietbroom.words import NIL, ZERO

FORMS = ("record", "array", "weak", "pair")

# A record names its fields itself; the other forms have these, in this order.
FIXED_FIELDS = {"array": ("item",), "weak": ("target",), "pair": ("key", "value")}

LETTERS = "abcdefghijklmnopqrstuvwxyz"
LETTERS_AND_DIGITS = "abcdefghijklmnopqrstuvwxyz0123456789"
LONGEST_NAME = 16
NO_NAMES = ("num", "mixed", "unset")


def is_name(text):
    """Tells whether the text can name a shape, a field, a static or a function."""
    if not 1 <= len(text) <= LONGEST_NAME or text in NO_NAMES:
        return False
    return text[0] in LETTERS and all([sign in LETTERS_AND_DIGITS for sign in text])


def size_of(length):
    """The words that an object with a payload of this length takes."""
    return length + 2


def blank_word(kind):
    """The word that a place of this kind holds at first."""
    if kind == "num":
        return ZERO
    return NIL


class Shape:
    """What an object consists of: a name, a form, and fields, each a pair of a name and a kind."""

    def __init__(self, name, form, fields):
        self.name = name
        self.form = form
        self.fields = frozen(fields)

    def kind_of(self, place):
        """The kind of the payload word at this place."""
        if self.form == "array":
            return self.fields[0][1]
        return self.fields[place][1]

    def blank(self, length):
        """The blank words of a payload; only an array asks for the length."""
        if self.form == "array":
            return (blank_word(self.fields[0][1]),) * length
        return tuple([blank_word(kind) for _, kind in self.fields])
