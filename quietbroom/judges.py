"""Judges tables of kinds and refusals that somebody else has made."""

from quietbroom.flow import runs_off, successors
from quietbroom.heights import height_behind, height_failure
from quietbroom.kinds import MIXED, UNSET, entry_state, fits, kinds_after
from quietbroom.sequences import frozen


def is_table(program, number, table):
    """Tells whether the table shows that no walk of the function with this number fails."""
    if not has_function(program, number):
        return False
    function = program.functions[number]
    entries = frozen(table)
    if len(entries) != len(function.body):
        return False
    if not all([is_entry(program, function, entry) for entry in entries]):
        return False
    if entries[0] is None or not fits(entry_state(function), entries[0]):
        return False
    return all([holds_at(program, function, entries, place) for place in range(len(entries))])


def has_function(program, number):
    """Tells whether the program has a function with this number."""
    return 0 <= number < len(program.functions)


def is_entry(program, function, entry):
    """Tells whether this is None or a state that the function may have."""
    if entry is None:
        return True
    slots, stack = entry
    values = [MIXED, "num"] + [shape.name for shape in program.shapes]
    if len(slots) != function.slots or not all([kind in values for kind in stack]):
        return False
    return all([kind == UNSET or kind in values for kind in slots])


def holds_at(program, function, entries, place):
    """Tells whether the instruction at a place takes its entry to those of all its successors."""
    if entries[place] is None:
        return True
    if runs_off(function, place):
        return False
    state = kinds_after(program, function, place, entries[place])
    if isinstance(state, str):
        return False
    awaited = [entries[following] for following in successors(function, place)]
    return all([entry is not None and fits(state, entry) for entry in awaited])


def is_refusal(program, refusal):
    """Tells whether the quadruple shows why the program is not accepted."""
    number, why, walk, other = refusal
    if not has_function(program, number):
        return False
    function = program.functions[number]
    if not is_walk(function, walk):
        return False
    if why == "height":
        return are_uneven(program, function, walk, other)
    if len(other) > 0:
        return False
    if why in ("end", "underflow"):
        height = arriving_height(program, function, walk)
        return height is not None and height_failure(program, function, walk[-1], height) == why
    return first_failure(program, function, walk) == (len(walk), why)


def is_walk(function, walk):
    """Tells whether these places are a walk of the function."""
    if len(walk) == 0 or walk[0] != 0:
        return False
    for before, place in zip(walk, walk[1:]):
        # Stops at the first one that is wrong: what follows need not even be a place of the body.
        if place not in successors(function, before):
            return False
    return True


def are_uneven(program, function, walk, other):
    """Tells whether another walk arrives at the end of a walk with another number of values."""
    if not is_walk(function, other) or walk[-1] != other[-1]:
        return False
    height = arriving_height(program, function, walk)
    other_height = arriving_height(program, function, other)
    return height is not None and other_height is not None and height != other_height


def arriving_height(program, function, walk):
    """With how many values a walk arrives, or None if a shorter beginning of it fails by its height."""
    height = 0
    for place in walk[:-1]:
        if height_failure(program, function, place, height) is not None:
            return None
        height = height_behind(program, function, place, height)
    return height


def first_failure(program, function, walk):
    """The length of the shortest beginning of a walk that fails, and the reason, or None."""
    state = entry_state(function)
    for count, place in enumerate(walk, start=1):
        if runs_off(function, place):
            return count, "end"
        state = kinds_after(program, function, place, state)
        if isinstance(state, str):
            return count, state
    return None
