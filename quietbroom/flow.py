"""Where the control of a function goes from a place of its body."""

ENDING = ("back", "halt")


def successors(function, place):
    """The places of the body that may come next, each once."""
    return tuple([other for other in next_places(function, place) if other < len(function.body)])


def runs_off(function, place):
    """Tells whether the place behind the body may come next."""
    return len(function.body) in next_places(function, place)


def next_places(function, place):
    """The places that may come next, the place behind the body among them."""
    instruction = function.body[place]
    if instruction[0] in ENDING:
        return ()
    if instruction[0] == "jump":
        return (instruction[1],)
    if instruction[0] == "when" and instruction[1] != place + 1:
        return (place + 1, instruction[1])
    return (place + 1,)
