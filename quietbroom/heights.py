"""How many values lie on the stack at each place of a function."""

from quietbroom.effects import put_kinds, taken_kinds
from quietbroom.flow import runs_off, successors


def taken_count(program, function, place):
    """How many values the instruction at this place takes."""
    return len(taken_kinds(program, function, function.body[place]))


def height_behind(program, function, place, height):
    """How many values lie on the stack behind the instruction at this place."""
    put = len(put_kinds(program, function, function.body[place]))
    return height - taken_count(program, function, place) + put


def height_failure(program, function, place, height):
    """Why a walk that ends at this place with this many values fails, whatever their kinds are, or None."""
    if runs_off(function, place):
        return "end"
    if height < taken_count(program, function, place):
        return "underflow"
    return None


def height_fault(program, function):
    """(why, walk, other) for the first fault that the numbers of values show, or None; and the heights by place."""
    heights = {0: 0}
    walks = {0: (0,)}
    queue = [0]
    at = 0
    while at < len(queue):
        place = queue[at]
        why = height_failure(program, function, place, heights[place])
        if why is not None:
            return (why, walks[place], ()), heights
        behind = height_behind(program, function, place, heights[place])
        for following in successors(function, place):
            walk = walks[place] + (following,)
            if following not in heights:
                heights[following] = behind
                walks[following] = walk
                queue.append(following)
            elif heights[following] != behind:
                return ("height", walk, walks[following]), heights
        at += 1
    return None, heights
