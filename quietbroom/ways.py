"""Ways to the objects of a picture."""

from quietbroom.errors import NoObject
from quietbroom.graphs import held_order
from quietbroom.words import address_of, is_reference, reference_word


def follow(picture, way):
    """The numbers of the objects to which a way goes, or None if it leads nowhere."""
    row, position, steps = way
    rows = picture.rows()
    if not 0 <= row < len(rows):
        return None
    words = rows[row]
    numbers = []
    for place in (position, *steps):
        if not 0 <= place < len(words) or not is_reference(words[place]):
            return None
        numbers.append(address_of(words[place]) - 1)
        _, words = picture.objects[numbers[-1]]
    return tuple(numbers)


def way_to(picture, number):
    """The least of the shortest ways to an object; raises NoObject."""
    refuse_missing(picture, number)
    first = first_referrers(picture)
    steps = []
    part, where, place = first[number]
    while part == "object":
        steps.append(place)
        part, where, place = first[where]
    return where, place, tuple(steps[::-1])


def first_referrers(picture):
    """For each object the last word of the least of the shortest ways to it, told as referrers tells it."""
    first = {}
    for row, words in enumerate(picture.rows()):
        note_first(first, "row", row, words)
    # Objects that are met earlier have shorter ways, or lesser ones that are as short.
    for number in held_order(picture.rows(), picture.objects):
        note_first(first, "object", number, picture.objects[number][1])
    return first


def note_first(first, part, number, words):
    """Takes note of the objects to which none of the words so far referred."""
    for place, word in enumerate(words):
        if is_reference(word):
            first.setdefault(address_of(word) - 1, (part, number, place))


def referrers(picture, number):
    """All words that refer to an object; raises NoObject."""
    refuse_missing(picture, number)
    wanted = reference_word(number + 1)
    found = []
    for row, words in enumerate(picture.rows()):
        found.extend([("row", row, position) for position in places_of(wanted, words)])
    for holder, (_, payload) in enumerate(picture.objects):
        found.extend([("object", holder, place) for place in places_of(wanted, payload)])
    return tuple(found)


def places_of(wanted, words):
    """The places at which the words are this word."""
    return [place for place, word in enumerate(words) if word == wanted]


def refuse_missing(picture, number):
    """Raises NoObject if the picture has no object with this number."""
    if not 0 <= number < len(picture.objects):
        raise NoObject(number)
