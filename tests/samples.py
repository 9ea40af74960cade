"""Programs that several tests use."""

import random

SHAPES = (
    ("box", "record", (("value", "num"), ("next", "box"))),
    ("bare", "record", ()),
    ("row", "array", (("item", "box"),)),
    ("look", "weak", (("target", "tie"),)),
    ("tie", "pair", (("key", "box"), ("value", "num"))),
)
STATICS = (("best", "num"), ("kept", "row"))

# Each operation once, in the order of the document, with operands that suit it.
EVERY = (
    ("num", -7), ("add",), ("sub",), ("mul",), ("div",), ("mod",), ("less",), ("same",), ("flip",),
    ("drop",), ("copy",), ("swap",), ("load", 0), ("store", 2), ("fetch", "best"), ("keep", "kept"),
    ("jump", 3), ("when", 39), ("call", "work"), ("back",), ("halt",), ("tell",),
    ("nil", "tie"), ("empty", "row"), ("twin", "look"), ("make", "bare"), ("get", "box", "value"),
    ("put", "box", "next"), ("array", "row"), ("at", "row"), ("set", "row"), ("length", "row"),
    ("weaken", "look"), ("peek", "look"), ("pair", "tie"), ("key", "tie"), ("value", "tie"),
    ("watch", "box"), ("parted", "bare"), ("settle",),
)
FUNCTIONS = (
    ("main", ("num",), None, 3, EVERY),
    ("work", ("box", "num"), "look", 2, (("nil", "look"), ("back",))),
)

LETTERS = "abcdefghijklmnopqrstuvwxyz"
NO_NAMES = ("num", "mixed", "unset")


def simple(body, slots=0):
    """The parts of a program of one function."""
    return ((), (), (("main", (), None, slots, tuple(body)),))


def as_lists(value):
    """The value with lists in place of tuples."""
    if isinstance(value, (list, tuple)):
        return [as_lists(part) for part in value]
    return value


def random_names(rng, count):
    """Different names."""
    names = []
    while len(names) < count:
        tail = "".join(rng.choice(LETTERS + "0123456789") for _ in range(rng.randrange(16)))
        name = rng.choice(LETTERS) + tail
        if name not in names and name not in NO_NAMES:
            names.append(name)
    return names


def random_parts(seed):
    """The parts of some program, the same for the same seed."""
    rng = random.Random(seed)
    names = random_names(rng, rng.choice((1, 2, 5, 40)))
    kinds = ["num"] + names
    shapes = tuple((name, *random_form(rng, names, kinds)) for name in names)
    statics = tuple((name, rng.choice(kinds)) for name in random_names(rng, rng.choice((0, 1, 3, 20))))
    heads = []
    for name in random_names(rng, rng.choice((1, 2, 5, 20))):
        params = tuple(rng.choice(kinds if heads else ["num"]) for _ in range(rng.randrange(7)))
        result = rng.choice(kinds) if heads and rng.randrange(2) else None
        heads.append((name, params, result, rng.randrange(len(params), 17)))
    functions = tuple((*head, random_body(rng, head[3], shapes, statics, heads)) for head in heads)
    return shapes, statics, functions


def random_form(rng, names, kinds):
    """A form and fields that it lets."""
    form = rng.choice(("record", "array", "weak", "pair"))
    if form == "record":
        return form, tuple((name, rng.choice(kinds)) for name in random_names(rng, rng.randrange(9)))
    if form == "array":
        return form, (("item", rng.choice(kinds)),)
    if form == "weak":
        return form, (("target", rng.choice(names)),)
    return form, (("key", rng.choice(names)), ("value", rng.choice(kinds)))


def random_body(rng, slots, shapes, statics, heads):
    """Instructions of all sorts that the program lets."""
    length = rng.choice((1, 2, 30, 200))
    choices = [("num", rng.choice((0, -1, 1, 2147483647, -2147483648, rng.randrange(-999, 999))))]
    choices.extend(("add", "halt", "settle", "back", "swap"))
    choices.extend((word, rng.randrange(length)) for word in ("jump", "when"))
    choices.append(("call", rng.choice(heads)[0]))
    choices.append((rng.choice(("nil", "empty", "twin", "watch", "parted")), rng.choice(shapes)[0]))
    choices.extend((word, rng.randrange(slots)) for word in ("load", "store") if slots)
    choices.extend((word, rng.choice(statics)[0]) for word in ("fetch", "keep") if statics)
    for name, form, fields in shapes:
        if form == "record":
            choices.append(("make", name))
            choices.extend((rng.choice(("get", "put")), name, field) for field, _ in fields)
        elif form == "array":
            choices.append((rng.choice(("array", "at", "set", "length")), name))
        elif form == "weak":
            choices.append((rng.choice(("weaken", "peek")), name))
        else:
            choices.append((rng.choice(("pair", "key", "value")), name))
    chosen = [rng.choice(choices) for _ in range(length)]
    return tuple((word,) if isinstance(word, str) else word for word in chosen)
