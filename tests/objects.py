"""Random objects of all four forms, and what is held of them worked out naively."""

import random

from quietbroom.programs import make_program
from tests.runs import SHAPES as RUN_SHAPES

SHAPES = RUN_SHAPES + (("self", "weak", (("target", "self"),)),)
PROGRAM = make_program(SHAPES, (), (("main", (), None, 0, (("halt",),)),))


def reference(number):
    """The word that refers to the object with this number."""
    return 2 * number + 2


def random_word(rng, kind, names, nils=0.3):
    """A word that fits the kind, in a standing whose objects have shapes of these names."""
    numbers = [number for number, name in enumerate(names) if name == kind]
    if kind == "num":
        return 2 * rng.randrange(-5, 6) + 1
    if not numbers or rng.random() < nils:
        return 0
    return reference(rng.choice(numbers))


def random_objects(rng, count):
    """Objects whose payloads fit their shapes."""
    names = [rng.choice(("box", "row", "look", "tie", "tie", "tag", "bare", "sums", "self")) for _ in range(count)]
    objects = []
    for name in names:
        shape = PROGRAM.shape(name)
        length = rng.randrange(4) if shape.form == "array" else len(shape.fields)
        payload = [random_word(rng, shape.kind_of(place), names) for place in range(length)]
        if shape.form == "pair" and payload[0] == 0:
            payload = list(shape.blank(0))
        objects.append((name, payload))
    return objects


def random_rows(rng, count):
    """Root rows over that many objects."""
    words = [0, 1, -7] + [reference(rng.randrange(count)) for _ in range(5) if count]
    return [[rng.choice(words) for _ in range(rng.randrange(3))] for _ in range(rng.randrange(5))]


def numbers_in(words):
    """The numbers of the objects to which words refer, in order."""
    return [word // 2 - 1 for word in words if word % 2 == 0 and word != 0]


def naive_order(rows, objects):
    """The held objects in the order of point 35."""
    order = list(dict.fromkeys(numbers_in([word for row in rows for word in row])))
    for number in order:
        order.extend(dict.fromkeys(other for other in numbers_in(objects[number][1]) if other not in order))
    return tuple(order)


def naive_strong(rows, objects):
    """The objects that are held strongly, found by asking again until nothing is added."""
    strong = set(numbers_in([word for row in rows for word in row]))
    while True:
        more = set(strong)
        for number in strong:
            name, payload = objects[number]
            form = PROGRAM.shape(name).form
            if form in ("record", "array"):
                more.update(numbers_in(payload))
            elif form == "pair" and set(numbers_in(payload[:1])) & strong:
                more.update(numbers_in(payload[1:]))
        if more == strong:
            return tuple(sorted(strong))
        strong = more


def naive_settling(rows, watched, parted, objects):
    """What a settling makes of the lists and the objects."""
    strong = naive_strong(list(rows) + [parted], objects)
    settled = []
    for name, payload in objects:
        shape = PROGRAM.shape(name)
        weak = shape.form in ("weak", "pair") and numbers_in(payload[:1])
        if weak and numbers_in(payload[:1])[0] not in strong:
            payload = shape.blank(0)
        settled.append((name, tuple(payload)))
    stays = tuple(word for word in watched if word // 2 - 1 in strong)
    parts = tuple(word for word in watched if word // 2 - 1 not in strong)
    return stays, tuple(parted) + parts, tuple(settled)


def random_standing(seed):
    """(rows, watched, parted, objects), the same for the same seed."""
    rng = random.Random(seed)
    count = rng.choice((0, 1, 2, 4, 7, 12, 20))
    objects = random_objects(rng, count)
    lists = [[reference(rng.randrange(count)) for _ in range(rng.randrange(4))] if count else [] for _ in range(2)]
    return random_rows(rng, count), lists[0], lists[1], objects
