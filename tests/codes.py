"""Random code for the checker, and the checker's answers worked out by going over all states."""

import random

from quietbroom.kinds import entry_state, kinds_after, merged
from quietbroom.programs import make_program

SHAPES = (
    ("box", "record", (("value", "num"), ("next", "box"))),
    ("look", "weak", (("target", "box"),)),
)
STATICS = (("best", "num"), ("kept", "box"))

# How many values the operations take and put that random code consists of.
COUNTS = {
    "num": (0, 1), "add": (2, 1), "flip": (1, 1), "drop": (1, 0), "copy": (1, 2), "swap": (2, 2), "load": (0, 1),
    "store": (1, 0), "fetch": (0, 1), "keep": (1, 0), "jump": (0, 0), "when": (1, 0), "halt": (0, 0), "tell": (1, 0),
    "nil": (0, 1), "empty": (1, 1), "get": (1, 1), "weaken": (1, 1), "peek": (1, 1), "settle": (0, 0),
}


def single(rng, slots, length):
    """One random instruction."""
    word = rng.choice(list(COUNTS) + ["back", "when", "when", "jump", "load", "store"])
    if word in ("load", "store"):
        return (word, rng.randrange(slots))
    operands = {
        "num": (rng.randrange(9),), "jump": (rng.randrange(length),), "when": (rng.randrange(length),),
        "fetch": (rng.choice(("best", "kept")),), "keep": (rng.choice(("best", "kept")),),
        "nil": (rng.choice(("box", "look")),), "empty": (rng.choice(("box", "look")),),
        "get": ("box", rng.choice(("value", "next"))), "weaken": ("look",), "peek": ("look",),
    }
    return (word, *operands.get(word, ()))


def wild_body(rng, slots):
    """Instructions that do not suit each other."""
    length = rng.randrange(1, 12)
    return tuple(single(rng, slots, length) for _ in range(length))


def even_body(rng, slots):
    """Instructions in groups that leave the stack as high as it was; jumps go to beginnings of groups."""
    groups = []
    for _ in range(rng.randrange(2, 9)):
        slot, other = rng.randrange(slots), rng.randrange(slots)
        groups.append(rng.choice((
            [("num", 1), ("store", slot)], [("nil", "box"), ("store", slot)], [("nil", "look"), ("store", slot)],
            [("load", slot), ("store", other)], [("load", slot), ("load", other), ("swap",), ("store", other), ("store", slot)],
            [("load", slot), ("drop",)], [("load", slot), ("tell",)], [("load", slot), ("empty", "box"), ("drop",)],
            [("load", slot), ("copy",), ("add",), ("drop",)], [("num", 1), ("when", None)], [("num", 1), ("when", None)],
            [("fetch", "kept"), ("when", None)], [("load", slot), ("when", None)], [("jump", None)], [("halt",)],
        )))
    groups.append([rng.choice((("back",), ("jump", None)))])
    begins = [sum(len(group) for group in groups[:at]) for at in range(len(groups))]
    return tuple(
        (instruction[0], rng.choice(begins)) if instruction[-1] is None else instruction
        for group in groups for instruction in group
    )


def random_code(seed):
    """A program of some functions of either sort, the same for the same seed."""
    rng = random.Random(seed)
    functions = []
    for number in range(rng.choice((1, 1, 1, 2))):
        slots = rng.randrange(1, 4)
        params = tuple("num" for _ in range(rng.randrange(slots + 1)))
        body = rng.choice((wild_body, even_body, even_body))(rng, slots)
        functions.append((f"f{number}", params, None, slots, body))
    return make_program(SHAPES, STATICS, functions)


def next_places(body, place):
    """The places that may come next, in order; the place behind the body is among them."""
    word = body[place][0]
    places = {"back": [], "halt": [], "jump": [body[place][-1]], "when": [place + 1, body[place][-1]]}
    return list(dict.fromkeys(places.get(word, [place + 1])))


def expected_height_fault(body):
    """What the heights show, as point 26 tells it, and the heights."""
    walks, heights, queue = {0: (0,)}, {0: 0}, [0]
    for place in queue:
        if len(body) in next_places(body, place):
            return ("end", walks[place], ()), heights
        takes, puts = COUNTS.get(body[place][0], (0, 0))
        if takes > heights[place]:
            return ("underflow", walks[place], ()), heights
        for after in next_places(body, place):
            if after not in heights:
                heights[after], walks[after] = heights[place] - takes + puts, walks[place] + (after,)
                queue.append(after)
            elif heights[after] != heights[place] - takes + puts:
                return ("height", walks[place] + (after,), walks[after]), heights
    return None, heights


def expected_kind_fault(program, function):
    """The least of the shortest walks that fail, found by following every walk to each state once."""
    seen = set()
    level = [((0,), entry_state(function))]
    while level:
        following = []
        for walk, state in sorted(level):
            if (walk[-1], state) in seen:
                continue
            seen.add((walk[-1], state))
            behind = kinds_after(program, function, walk[-1], state)
            if isinstance(behind, str):
                return behind, walk, ()
            following.extend((walk + (place,), behind) for place in next_places(function.body, walk[-1]))
        level = following
    return None


def expected_refusal(program):
    """What refusal is to return."""
    for number, function in enumerate(program.functions):
        fault, _ = expected_height_fault(function.body)
        if fault is None:
            fault = expected_kind_fault(program, function)
        if fault is not None:
            return (number, *fault)
    return None


def expected_table(program, function):
    """The merged states of all walks of a function of an accepted program."""
    arriving = [[] for _ in function.body]
    todo = [(0, entry_state(function))]
    while todo:
        place, state = todo.pop()
        if state not in arriving[place]:
            arriving[place].append(state)
            behind = kinds_after(program, function, place, state)
            todo.extend((after, behind) for after in next_places(function.body, place))
    table = []
    for states in arriving:
        entry = states[0] if states else None
        for state in states[1:]:
            entry = merged(entry, state)
        table.append(entry)
    return tuple(table)
