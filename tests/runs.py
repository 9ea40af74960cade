"""Random programs that are accepted and that make many objects."""

import random

from quietbroom.programs import make_program

SHAPES = (
    ("box", "record", (("value", "num"), ("next", "box"), ("row", "row"))),
    ("bare", "record", ()),
    ("row", "array", (("item", "look"),)),
    ("sums", "array", (("item", "num"),)),
    ("look", "weak", (("target", "tie"),)),
    ("tie", "pair", (("key", "box"), ("value", "tie"))),
    ("tag", "pair", (("key", "tie"), ("value", "num"))),
)
STATICS = (("best", "num"), ("kept", "box"), ("ties", "tie"))
KINDS = ("num", "num", "box", "box", "row", "sums", "look", "tie", "tie", "tag")
FUNCTIONS = (("mix", ("num", "box"), "box"), ("tieup", ("box",), "tie"), ("again", ("num",), None))


class Writer:
    """Writes a body whose slots keep the kinds of KINDS."""

    def __init__(self, rng):
        self.rng = rng
        self.body = []

    def slot(self, kind):
        """Some slot of this kind."""
        return self.rng.choice([slot for slot, own in enumerate(KINDS) if own == kind])

    def add(self, *instructions):
        self.body.extend(instructions)

    def value(self, kind, depth=0):
        """Instructions that put a value of this kind."""
        rng = self.rng
        if depth > 2 or rng.random() < 0.3:
            # A slot may hold nil, and so may what is fetched.
            if kind == "num":
                self.add(rng.choice((("num", rng.randrange(-3, 7)), ("load", self.slot(kind)), ("fetch", "best"))))
            elif kind == "bare":
                self.add(("make", "bare"))
            else:
                fetched = {"box": ("fetch", "kept"), "tie": ("fetch", "ties")}.get(kind, ("load", self.slot(kind)))
                self.add(rng.choice((("load", self.slot(kind)), ("load", self.slot(kind)), fetched)))
            return
        self.built(kind, depth + 1)

    def sure(self, kind, depth):
        """A value of a shape that is surely not nil, most of the time."""
        if self.rng.random() < 0.15:
            self.value(kind, depth)
        elif kind == "box":
            self.add(("make", "box"))
        elif kind in ("row", "sums"):
            self.add(("num", self.rng.randrange(1, 4)), ("array", kind))
        elif kind == "look":
            self.sure("tie", depth)
            self.add(("weaken", "look"))
        elif kind == "tie":
            self.sure("box", depth)
            self.value("tie", depth + 1)
            self.add(("pair", "tie"))
        else:
            self.sure("tie", depth)
            self.value("num", depth + 1)
            self.add(("pair", "tag"))

    def built(self, kind, depth):
        """A value by one of the operations that put this kind."""
        rng = self.rng
        choices = {
            "num": ("add", "sub", "mul", "div", "less", "flip", "empty", "twin", "get", "length", "at", "value"),
            "box": ("make", "next", "key", "parted", "call", "nil"), "row": ("array", "row"), "sums": ("array",),
            "look": ("weaken", "at", "weaken"), "tie": ("pair", "pair", "peek", "value", "call", "parted", "key"),
            "tag": ("pair",),
        }
        getattr(self, kind + "_by")(rng.choice(choices[kind]), depth)

    def num_by(self, word, depth):
        kind = self.rng.choice(("box", "row", "look", "tie"))
        if word in ("add", "sub", "mul", "div", "less"):
            self.value("num", depth)
            self.value("num", depth) if word != "div" else self.add(("num", self.rng.choice((-2, 3, 3, 0))))
            self.add((word,))
        elif word == "flip":
            self.value("num", depth)
            self.add((word,))
        elif word == "empty":
            self.value(kind, depth)
            self.add((word, kind))
        elif word == "twin":
            self.value(kind, depth)
            self.value(kind, depth)
            self.add((word, kind))
        elif word == "get":
            self.sure("box", depth)
            self.add(("get", "box", "value"))
        elif word == "at":
            self.sure("sums", depth)
            self.add(("num", self.rng.choice((0, 0, 0, 1))), ("at", "sums"))
        elif word == "length":
            self.sure("sums", depth)
            self.add(("length", "sums"))
        else:
            self.sure("tag", depth)
            self.add(("value", "tag"))

    def box_by(self, word, depth):
        if word == "next":
            self.sure("box", depth)
            self.add(("get", "box", "next"))
        elif word == "key":
            self.sure("tie", depth)
            self.add(("key", "tie"))
        elif word == "call":
            self.value("num", depth)
            self.value("box", depth)
            self.add(("call", "mix"))
        else:
            self.add((word, "box"))

    def row_by(self, word, depth):
        if word == "array":
            self.add(("num", self.rng.choice((0, 1, 2, 3))), ("array", "row"))
        else:
            self.sure("box", depth)
            self.add(("get", "box", "row"))

    def sums_by(self, word, depth):
        self.add(("num", self.rng.choice((0, 1, 5, 9))), ("array", "sums"))

    def look_by(self, word, depth):
        if word == "at":
            self.sure("row", depth)
            self.add(("num", 0), ("at", "row"))
        else:
            self.sure("look", depth)

    def tie_by(self, word, depth):
        if word == "pair":
            self.sure("tie", depth)
        elif word == "peek":
            self.sure("look", depth)
            self.add(("peek", "look"))
        elif word == "value":
            self.sure("tie", depth)
            self.add(("value", "tie"))
        elif word == "key":
            self.sure("tag", depth)
            self.add(("key", "tag"))
        elif word == "call":
            self.value("box", depth)
            self.add(("call", "tieup"))
        else:
            self.add(("parted", "tie"))

    def tag_by(self, word, depth):
        self.sure("tag", depth)

    def deed(self):
        """Instructions that leave the stack as high as it was."""
        rng = self.rng
        word = rng.choice(("store",) * 5 + ("keep", "put", "put", "set", "watch", "watch", "settle", "tell", "call"))
        if word == "store":
            slot = rng.randrange(len(KINDS))
            self.value(KINDS[slot])
            self.add((word, slot))
        elif word == "keep":
            name, kind = rng.choice(STATICS)
            self.value(kind)
            self.add((word, name))
        elif word == "put":
            field, kind = rng.choice((("value", "num"), ("next", "box"), ("row", "row")))
            self.sure("box", 1)
            self.add(*rng.choice(([], [("copy",), ("keep", "kept")])))
            self.value(kind)
            self.add((word, "box", field))
        elif word == "set":
            kind, item = rng.choice((("row", "look"), ("sums", "num")))
            self.sure(kind, 1)
            self.add(*rng.choice(([], [("copy",), ("store", self.slot(kind))])))
            self.add(("num", 0))
            self.value(item)
            self.add((word, kind))
        elif word == "watch":
            kind = rng.choice(("box", "tie"))
            self.sure(kind, 1)
            self.add(*rng.choice(([], [("copy",), ("store", self.slot(kind))])))
            self.add((word, kind))
        elif word == "tell":
            self.value("num")
            self.add((word,))
        elif word == "call":
            self.add(("num", 1), ("call", "again"))
        elif rng.random() < 0.3:
            self.add((word,))

    def write(self, params, result):
        """The whole body: the slots get values, then deeds in a loop, then back."""
        for slot, kind in enumerate(KINDS):
            if slot >= len(params) or params[slot] != kind:
                self.add(("num", 1) if kind == "num" else ("nil", kind), ("store", slot))
        begin = len(self.body)
        while len(self.body) < 150:
            self.deed()
            if self.rng.random() < 0.15:
                self.value("num")
                self.add(("when", len(self.body) + 2), ("settle",))
            if self.rng.random() < 0.2:
                break
        if result is None:
            self.add(("fetch", "best"), ("when", begin), ("num", 1), ("when", begin))
        else:
            self.value(result)
        self.add(("back",))
        return self.body


def random_run(seed):
    """An accepted program that makes objects of all forms, the same for the same seed."""
    rng = random.Random(seed)
    functions = [("main", ("num",), None, len(KINDS), Writer(rng).write(("num",), None))]
    for name, params, result in FUNCTIONS:
        writer = Writer(rng)
        if name == "again":
            # It calls itself until there are too many frames, or not.
            body = [("load", 0), ("tell",), ("make", "box"), ("store", 1)]
            body += rng.choice(([], [], [("num", rng.choice((0, 1))), ("when", 8), ("num", 2), ("call", "again"), ("settle",)]))
            functions.append((name, params, result, 2, body + [("back",)]))
        elif name == "mix":
            writer.add(("load", 1), ("make", "box"), ("copy",), ("load", 0), ("put", "box", "value"), ("copy",), ("load", 1),
                       ("put", "box", "next"), ("back",))
            functions.append((name, params, result, 2, writer.body))
        else:
            writer.add(("load", 0), ("empty", "box"), ("when", 7), ("load", 0), ("fetch", "ties"), ("pair", "tie"), ("back",),
                       ("fetch", "ties"), ("back",))
            functions.append((name, params, result, 1, writer.body))
    return make_program(SHAPES, STATICS, functions)
