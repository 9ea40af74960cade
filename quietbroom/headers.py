"""The two header words of a block in the memory: the form word and the state word."""

WHITE = 0
GRAY = 1
BLACK = 2

SHAPE_SPAN = 64
COLOUR_SPAN = 4
FORWARD_UNIT = 8


def form_word(shape_number, length):
    """The form word of an object of this shape with a payload of this length."""
    return SHAPE_SPAN * length + shape_number


def state_word(colour, remembered, forward):
    """The state word of a block with this colour, remembered mark and forward address."""
    return FORWARD_UNIT * forward + COLOUR_SPAN * remembered + colour


def shape_number_of(word):
    """The shape number in a form word."""
    return word % SHAPE_SPAN


def length_of(word):
    """The length in a form word."""
    return word // SHAPE_SPAN


def colour_of(word):
    """The colour in a state word."""
    return word % COLOUR_SPAN


def remembered_of(word):
    """The remembered mark in a state word."""
    return word % FORWARD_UNIT // COLOUR_SPAN


def forward_of(word):
    """The forward address in a state word, 0 if there is none."""
    return word // FORWARD_UNIT
