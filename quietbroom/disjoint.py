"""Two chains of objects from one to another that share no object in between.

They are sought as a flow in which one chain may pass through each object: the
second search may go back along the first chain, which is then laid anew. A
state of the search is "at" an object, all of whose words it may follow, or has
"met" an object of the first chain, along which it can only go back.
"""

AT = "at"
MET = "met"


def two_chains(targets_of, source, target):
    """Two chains of numbers behind the source up to the target; there are two, or a single word leads there."""
    if target in targets_of(source):
        return [target], [target]
    arcs = {}
    for _ in range(2):
        lay(arcs, found_trail(targets_of, arcs, source, target))
    following = {one: two for one, two in arcs if one != source}
    return tuple([chain_from(first, following, target) for one, first in arcs if one == source])


def chain_from(first, following, target):
    """The chain from its first object on."""
    chain = [first]
    while chain[-1] != target:
        chain.append(following[chain[-1]])
    return chain


def found_trail(targets_of, arcs, source, target):
    """The states of a shortest search from the source to the target, beside what is laid already."""
    before = {two: one for one, two in arcs if two != target}
    origins = {(AT, source): None}
    queue = [(AT, source)]
    at = 0
    while (AT, target) not in origins:
        state = queue[at]
        for following in states_behind(targets_of, arcs, before, state):
            if following not in origins:
                origins[following] = state
                queue.append(following)
        at += 1
    trail = [(AT, target)]
    while trail[-1] != (AT, source):
        trail.append(origins[trail[-1]])
    return trail[::-1]


def states_behind(targets_of, arcs, before, state):
    """The states that may come next."""
    side, number = state
    if side == MET:
        return [(AT, before[number])]
    found = [(MET, number)] if number in before else []
    for other in targets_of(number):
        if (number, other) not in arcs:
            found.append((MET if other in before else AT, other))
    return found


def lay(arcs, trail):
    """Lays a chain along a trail; what it goes back along is laid no longer."""
    for (side, number), (_, other) in zip(trail, trail[1:]):
        if side == MET:
            del arcs[(other, number)]
        elif number != other:
            arcs[(number, other)] = True
