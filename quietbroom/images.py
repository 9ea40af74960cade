"""Images: pictures as text."""

from quietbroom.errors import BadImage
from quietbroom.integers import is_integer_word
from quietbroom.pictures import Picture
from quietbroom.shapes import is_name
from quietbroom.words import MAX_NUMBER, MIN_NUMBER, NIL, address_of, is_number, number_of, number_word, reference_word

MOST_PLACE = 199
MOST_OBJECT = 99999
NIL_WORD = "nil"
REFERENCE_SIGN = "@"

# The first words of the lines that may stand behind a line with this first word; "" is ahead of all lines.
FOLLOWING = {
    "": ("static", "frame", "watched"),
    "static": ("static", "frame", "watched"),
    "frame": ("slots",),
    "slots": ("stack",),
    "stack": ("frame", "watched"),
    "watched": ("parted",),
    "parted": ("object",),
    "object": ("object",),
}
LAST = ("parted", "object")


def write_image(picture):
    """The text of a picture."""
    lines = [words_line(["static"], [word]) for word in picture.statics]
    for name, place, slots, stack in picture.frames:
        lines.extend([f"frame {name} {place}", words_line(["slots"], slots), words_line(["stack"], stack)])
    lines.append(words_line(["watched"], picture.watched))
    lines.append(words_line(["parted"], picture.parted))
    lines.extend([words_line(["object", name], payload) for name, payload in picture.objects])
    return "".join([line + "\n" for line in lines])


def words_line(heads, words):
    """A line that ends with words of memory."""
    return " ".join(heads + [image_word(word) for word in words])


def image_word(word):
    """A word of memory as an image has it."""
    if word == NIL:
        return NIL_WORD
    if is_number(word):
        return str(number_of(word))
    return f"{REFERENCE_SIGN}{address_of(word) - 1}"


def read_image(text):
    """The picture that has this text; raises BadImage."""
    lines = text.split("\n")
    # What stands behind the last line feed is no line, or one that is not ended.
    rest = lines.pop()
    found = {head: [] for head in FOLLOWING}
    last = ""
    for number, line in enumerate(lines, start=1):
        words = line.split(" ")
        if words[0] not in FOLLOWING[last] or not is_image_line(words):
            raise BadImage(number, "line")
        last = words[0]
        found[last].append(words[1:])
    if last not in LAST or rest != "":
        raise BadImage(len(lines) + 1, "end")
    return found_picture(found)


def is_image_line(words):
    """Tells whether the words behind the first one of a line are such as belong there."""
    head = words[0]
    if head == "frame":
        return len(words) == 3 and is_name(words[1]) and is_natural(words[2], MOST_PLACE)
    if head == "object":
        return len(words) >= 2 and is_name(words[1]) and are_memory_words(words[2:])
    if head == "static" and len(words) != 2:
        return False
    return are_memory_words(words[1:])


def are_memory_words(words):
    """Tells whether all these are words of memory as an image has them."""
    return all([is_memory_word(word) for word in words])


def is_memory_word(word):
    """Tells whether this is a word of memory as an image has it."""
    if word.startswith(REFERENCE_SIGN):
        return is_natural(word[1:], MOST_OBJECT)
    if word == NIL_WORD:
        return True
    return is_integer_word(word) and MIN_NUMBER <= int(word) <= MAX_NUMBER


def is_natural(word, most):
    """Tells whether the word stands for an integer from 0 to this one."""
    return is_integer_word(word) and 0 <= int(word) <= most


def found_picture(found):
    """The picture of the lines that were found, by their first words."""
    heads = [(name, int(place)) for name, place in found["frame"]]
    frames = [
        (name, place, memory_words(slots), memory_words(stack))
        for (name, place), slots, stack in zip(heads, found["slots"], found["stack"])
    ]
    statics = [memory_word(words[0]) for words in found["static"]]
    objects = [(words[0], memory_words(words[1:])) for words in found["object"]]
    watched = memory_words(found["watched"][0])
    parted = memory_words(found["parted"][0])
    return Picture(statics, frames, watched, parted, objects)


def memory_words(words):
    """The words of memory that these words of an image stand for."""
    return [memory_word(word) for word in words]


def memory_word(word):
    """The word of memory that a word of an image stands for."""
    if word == NIL_WORD:
        return NIL
    if word.startswith(REFERENCE_SIGN):
        return reference_word(int(word[1:]) + 1)
    return number_word(int(word))
