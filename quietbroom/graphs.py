"""Which objects are held, which are held strongly, and what a settling clears."""

from quietbroom.shapes import blank_word, size_of
from quietbroom.words import NIL, address_of, is_reference


def held_order(rows, objects):
    """The numbers of the held objects, in the order in which they are met."""
    def payload_of(number):
        return objects[number][1]

    return met_order(rows, payload_of)


def met_order(rows, payload_of):
    """The numbers of the objects that are met from the rows on, by a function that tells an object's payload."""
    order = []
    met = {}
    for row in rows:
        meet(row, order, met)
    at = 0
    while at < len(order):
        meet(payload_of(order[at]), order, met)
        at += 1
    return tuple(order)


def meet(words, order, met):
    """Adds the objects to which the words refer to those that were met."""
    for word in words:
        if is_reference(word):
            number = address_of(word) - 1
            if number not in met:
                met[number] = True
                order.append(number)


def held_words(rows, objects):
    """The sum of the sizes of the held objects."""
    return words_of(held_order(rows, objects), objects)


def words_of(numbers, objects):
    """The sum of the sizes of the objects with these numbers."""
    return all_words([objects[number] for number in numbers])


def all_words(objects):
    """The sum of the sizes of all these objects."""
    return sum([size_of(len(payload)) for _, payload in objects])


def strong_set(program, rows, objects):
    """The numbers of the objects that the rows hold strongly, in ascending order."""
    order = []
    met = {}
    # For the key of a pair that was met ahead of it: the values that the key will let be met.
    waiting = {}
    for row in rows:
        meet(row, order, met)
    at = 0
    while at < len(order):
        number = order[at]
        meet(waiting.get(number, ()), order, met)
        name, payload = objects[number]
        form = program.shape(name).form
        if form in ("record", "array"):
            meet(payload, order, met)
        elif form == "pair" and is_reference(payload[0]):
            key, value = payload
            if address_of(key) - 1 in met:
                meet((value,), order, met)
            else:
                waiting.setdefault(address_of(key) - 1, []).append(value)
        at += 1
    return tuple(sorted(order))


def program_settling(program, rows, watched, parted, objects):
    """What a settling makes of the watched list, the parted list and the objects."""
    strong = strong_table(program, (*rows, parted), objects)
    stays, parts = parting(watched, strong)
    settled = [(name, settled_payload(program.shape(name), payload, strong)) for name, payload in objects]
    return stays, (*parted, *parts), tuple(settled)


def strong_table(program, rows, objects):
    """The numbers of the objects that the rows hold strongly, as the keys of a dict."""
    return {number: True for number in strong_set(program, rows, objects)}


def parting(watched, strong):
    """The watched references that stay and those that part when these objects are held strongly."""
    stays = [word for word in watched if address_of(word) - 1 in strong]
    parts = [word for word in watched if address_of(word) - 1 not in strong]
    return tuple(stays), tuple(parts)


def settled_payload(shape, payload, strong):
    """A payload behind a settling that found these objects held strongly."""
    if shape.form in ("weak", "pair") and payload[0] != NIL and address_of(payload[0]) - 1 not in strong:
        return tuple([NIL] + [blank_word(kind) for _, kind in shape.fields[1:]])
    return tuple(payload)
