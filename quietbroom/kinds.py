"""States of kinds: what the slots and the stack hold at a place."""

from quietbroom.effects import put_kinds, taken_kinds
from quietbroom.sequences import frozen

MIXED = "mixed"
UNSET = "unset"


def entry_state(function):
    """The state with which a function begins."""
    return function.params + (UNSET,) * (function.slots - len(function.params)), ()


def kinds_after(program, function, place, state):
    """The state behind an instruction, or why it cannot be executed in this state."""
    slots, stack = frozen(state)
    instruction = function.body[place]
    taken = taken_kinds(program, function, instruction)
    if len(stack) < len(taken):
        return "underflow"
    if instruction[0] == "load" and slots[instruction[1]] == UNSET:
        return "unset"
    for kind, wanted in zip(stack[len(stack) - len(taken):], taken):
        if wanted is not None and kind != wanted:
            return "kind"
    return state_behind(program, function, place, slots, stack)


def state_behind(program, function, place, slots, stack):
    """The state behind an instruction, whatever stands in slots and stack; what is carried along stays as it is."""
    instruction = function.body[place]
    rest = stack[:len(stack) - len(taken_kinds(program, function, instruction))]
    if instruction[0] == "copy":
        return slots, rest + stack[-1:] * 2
    if instruction[0] == "swap":
        return slots, rest + (stack[-1], stack[-2])
    if instruction[0] == "load":
        return slots, rest + (slots[instruction[1]],)
    if instruction[0] == "store":
        slot = instruction[1]
        return slots[:slot] + stack[-1:] + slots[slot + 1:], rest
    return slots, rest + put_kinds(program, function, instruction)


def merged(one, two):
    """The state of two walks that meet."""
    return tuple([merged_entries(*parts) for parts in zip(frozen(one), frozen(two))])


def merged_entries(one, two):
    """Two rows of entries, merged place by place."""
    return tuple([merged_entry(*entries) for entries in zip(one, two)])


def merged_entry(one, two):
    """Two entries merged."""
    if one == two:
        return one
    if UNSET in (one, two):
        return UNSET
    return MIXED


def fits(one, two):
    """Tells whether the first state may stand where the second one is awaited."""
    for mine, awaited in zip(frozen(one), frozen(two)):
        if len(mine) != len(awaited):
            return False
        if not all([fits_entry(*entries) for entries in zip(mine, awaited)]):
            return False
    return True


def fits_entry(one, two):
    """Tells whether the first entry may stand where the second one is awaited."""
    return one == two or two == UNSET or (two == MIXED and one != UNSET)
