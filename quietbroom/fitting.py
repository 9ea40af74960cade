"""Tells why a picture does not fit its program."""

from quietbroom.checker import kind_tables
from quietbroom.frame_actions import MOST_FRAMES
from quietbroom.graphs import held_order
from quietbroom.kinds import MIXED, UNSET
from quietbroom.object_actions import MOST_ITEMS
from quietbroom.words import MAX_NUMBER, MIN_NUMBER, NIL, address_of, is_number, is_reference, number_of


def picture_fault(program, picture):
    """None if the picture fits the accepted program, otherwise (part, number, why)."""
    for step in STEPS:
        fault = step(program, picture)
        if fault is not None:
            return fault
    return None


def static_fault(program, picture):
    """The fault of the statics, or None."""
    if len(picture.statics) != len(program.statics):
        return "static", 0, "count"
    for number, word in enumerate(picture.statics):
        if not fits_kind(program, picture, word, program.statics[number][1]):
            return "static", number, "kind"
    return None


def frame_fault(program, picture):
    """The fault of the first frame that has one, or None."""
    if len(picture.frames) > MOST_FRAMES:
        return "frame", 0, "many"
    tables = kind_tables(program)
    for number in range(len(picture.frames)):
        why = calling_fault(program, picture, tables, number) or words_fault(program, picture, tables, number)
        if why is not None:
            return "frame", number, why
    return None


def calling_fault(program, picture, tables, number):
    """Why the function and the place of a frame are wrong, or None."""
    name = picture.frames[number][0]
    if name not in [function.name for function in program.functions]:
        return "function"
    if number == 0 and name != program.functions[0].name:
        return "entry"
    return place_fault(program, picture, tables, number)


def place_fault(program, picture, tables, number):
    """Why the place of a frame is wrong, or None; its function is not."""
    name, place, _, _ = picture.frames[number]
    body = program.function(name).body
    table = tables[program.function_number(name)]
    if not 0 <= place < len(body):
        return "place"
    if number == len(picture.frames) - 1:
        return "place" if table[place] is None else None
    called = picture.frames[number + 1][0]
    if place == 0 or body[place - 1] != ("call", called) or table[place - 1] is None:
        return "call"
    return None


def words_fault(program, picture, tables, number):
    """Why the slots or the stack of a frame are wrong, or None; its function and its place are not."""
    _, _, slots, stack = picture.frames[number]
    slot_kinds, stack_kinds = frame_kinds(program, picture, tables, number)
    if not fit_kinds(program, picture, slots, slot_kinds):
        return "slots"
    if not fit_kinds(program, picture, stack, stack_kinds):
        return "stack"
    return None


def frame_kinds(program, picture, tables, number):
    """The kinds of the slots and of the stack of a frame."""
    name, place, _, _ = picture.frames[number]
    table = tables[program.function_number(name)]
    if number == len(picture.frames) - 1:
        return table[place]
    slots, stack = table[place - 1]
    called = program.function(picture.frames[number + 1][0])
    return slots, stack[:len(stack) - len(called.params)]


def list_fault(program, picture):
    """The fault of the watched or the parted list, or None."""
    for part, words in (("watched", picture.watched), ("parted", picture.parted)):
        for number, word in enumerate(words):
            if shape_name_of(picture, word) is None:
                return part, number, "kind"
    return None


def objects_fault(program, picture):
    """The fault of the first object that has one, or None."""
    for number in range(len(picture.objects)):
        why = object_fault(program, picture, number)
        if why is not None:
            return "object", number, why
    return None


def object_fault(program, picture, number):
    """Why an object is wrong, or None."""
    name, payload = picture.objects[number]
    if not has_shape(program, name):
        return "shape"
    shape = program.shape(name)
    if not has_length(shape, payload):
        return "length"
    if not fit_kinds(program, picture, payload, [shape.kind_of(place) for place in range(len(payload))]):
        return "kind"
    if shape.form == "pair" and payload[0] == NIL and payload != shape.blank(len(payload)):
        return "pair"
    return None


def has_length(shape, payload):
    """Tells whether a payload has as many words as its shape wants."""
    if shape.form == "array":
        return len(payload) <= MOST_ITEMS
    return len(payload) == len(shape.fields)


def order_fault(program, picture):
    """The least object that has not the number that held_order gives it, or None."""
    order = held_order(picture.rows(), picture.objects)
    for number in range(len(picture.objects)):
        if number >= len(order) or order[number] != number:
            return "object", number, "order"
    return None


def fit_kinds(program, picture, words, kinds):
    """Tells whether there are as many words as kinds, and each fits its kind."""
    if len(words) != len(kinds):
        return False
    return all([fits_kind(program, picture, word, kind) for word, kind in zip(words, kinds)])


def fits_kind(program, picture, word, kind):
    """Tells whether a word fits a kind, "mixed" or "unset"."""
    if kind in (MIXED, UNSET):
        return word == NIL or is_known_number(word) or has_shape(program, shape_name_of(picture, word))
    if kind == "num":
        return is_known_number(word)
    return word == NIL or shape_name_of(picture, word) == kind


def is_known_number(word):
    """Tells whether the word is one of a number that there is."""
    return is_number(word) and MIN_NUMBER <= number_of(word) <= MAX_NUMBER


def has_shape(program, name):
    """Tells whether the program has a shape with this name."""
    return name in [shape.name for shape in program.shapes]


def shape_name_of(picture, word):
    """The name of the shape of the object to which a word refers, or None if it refers to none."""
    number = address_of(word) - 1
    if not is_reference(word) or not 0 <= number < len(picture.objects):
        return None
    return picture.objects[number][0]


STEPS = (static_fault, frame_fault, list_fault, objects_fault, order_fault)
