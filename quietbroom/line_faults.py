"""Tells why a line of an assembler text is wrong, from its words."""

from quietbroom.integers import is_integer_word
from quietbroom.operations import OPERANDS

# The words that begin a line outside of a function, and how many words such
# a line has; it is a least number for the two that may have more.
WORD_COUNTS = {"record": 2, "array": 3, "weak": 3, "pair": 4, "static": 3, "function": 3}
OPEN_ENDED = ("record", "function")
SHAPES_AND_OPERATIONS = ("array", "pair")
ONLY_OUTSIDE = ("record", "weak", "static", "function")
INTEGER_SORTS = ("number", "slot")
ARROW = "->"


def outside_fault(words):
    """Why a line of these words cannot stand outside of a function, or None."""
    head = words[0]
    if is_only_inside(head):
        return "outside"
    if head not in WORD_COUNTS:
        return "word"
    if not has_outside_count(words):
        return "count"
    if head == "record" and not all([is_field_word(word) for word in words[2:]]):
        return "field"
    if head == "function" and not is_integer_word(words[2]):
        return "number"
    return None


def is_only_inside(head):
    """Tells whether a line that begins with this word belongs into a function."""
    if head in SHAPES_AND_OPERATIONS:
        return False
    return head == "end" or head in OPERANDS or head.endswith(":")


def has_outside_count(words):
    """Tells whether a line outside of a function has as many words as its first word asks for."""
    wanted = WORD_COUNTS[words[0]]
    if words[0] not in OPEN_ENDED:
        return len(words) == wanted
    if len(words) < wanted:
        return False
    if words[0] == "function" and ARROW in words[3:]:
        return len(words) - words.index(ARROW, 3) == 2
    return True


def is_field_word(word):
    """Tells whether the word is a name and a kind with a colon between them."""
    return word.count(":") == 1 and not word.startswith(":") and not word.endswith(":")


def inside_fault(words, labels):
    """Why a line of these words cannot stand in a function that has these labels so far, or None."""
    head = words[0]
    if head in ONLY_OUTSIDE:
        return "inside"
    if head != "end" and head not in OPERANDS and not is_label(head):
        return "word"
    if len(words) - 1 != operand_count(head):
        return "count"
    if not has_integers(words):
        return "number"
    if is_label(head) and head[:-1] in labels:
        return "label"
    return None


def is_label(head):
    """Tells whether the first word of a line is a label."""
    return len(head) > 1 and head.count(":") == 1 and head.endswith(":")


def operand_count(head):
    """The words that stand behind an operation, or behind `end` or a label."""
    if head in OPERANDS:
        return len(OPERANDS[head])
    return 0


def has_integers(words):
    """Tells whether a line of a function has integers where its operation wants them."""
    if words[0] not in OPERANDS:
        return True
    for sort, word in zip(OPERANDS[words[0]], words[1:]):
        if sort in INTEGER_SORTS and not is_integer_word(word):
            return False
    return True
