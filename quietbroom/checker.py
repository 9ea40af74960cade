"""Accepts a program, or tells a walk that shows why not."""

from quietbroom.errors import Refused
from quietbroom.flow import successors
from quietbroom.heights import height_fault
from quietbroom.kinds import entry_state, kinds_after, merged
from quietbroom.walks import failing_walk


def refusal(program):
    """None if the program is accepted, otherwise (number, why, walk, other) for its first function with a fault."""
    for number, function in enumerate(program.functions):
        fault = function_fault(program, function)
        if fault is not None:
            return (number, *fault)
    return None


def check(program):
    """Raises Refused if the program is not accepted."""
    fault = refusal(program)
    if fault is not None:
        number, why, walk, other = fault
        raise Refused(number, why, walk, other)


def kind_tables(program):
    """For each function the merged states of all walks, by place; raises Refused."""
    check(program)
    return tuple([merged_table(program, function) for function in program.functions])


def function_fault(program, function):
    """(why, walk, other) if the function has a fault, otherwise None."""
    fault, heights = height_fault(program, function)
    if fault is not None:
        return fault
    # The table is soon made, and it can be made exactly if no walk fails: only then is one searched for.
    if merged_table(program, function) is not None:
        return None
    why, walk = failing_walk(program, function, heights)
    return why, walk, ()


def merged_table(program, function):
    """The merged states of all walks by place, or None if a walk fails; no walk fails by its heights."""
    table = [None] * len(function.body)
    table[0] = entry_state(function)
    changed = [0]
    while changed:
        place = changed.pop()
        state = kinds_after(program, function, place, table[place])
        if isinstance(state, str):
            return None
        for following in successors(function, place):
            arriving = state
            if table[following] is not None:
                arriving = merged(table[following], state)
            if arriving != table[following]:
                table[following] = arriving
                changed.append(following)
    return tuple(table)
