"""The search for the shortest walk on which a value has a wrong kind.

A function can have far more states of kinds than anyone can visit. But whether
a walk fails at a place is decided by single values: a value comes into being
or stands in a slot at the entry, and is carried from location to location. So
a walk is followed on only as long as it brings to a place some kind at some
location that no earlier walk brought there. A location is the number of a
slot, or the number of slots plus the index of a value on the stack.
"""

from quietbroom.effects import taken_kinds
from quietbroom.flow import successors
from quietbroom.kinds import UNSET, entry_state, state_behind


class Passage:
    """What the instruction at a place does with the values at each location."""

    def __init__(self, program, function, place, height):
        instruction = function.body[place]
        count = function.slots + height
        labels = tuple(range(count))
        slots, stack = state_behind(program, function, place, labels[:function.slots], labels[function.slots:])
        self.targets = [[] for _ in labels]
        self.born = []
        for location, origin in enumerate(slots + stack):
            if isinstance(origin, int):
                self.targets[origin].append(location)
            else:
                self.born.append((location, origin))
        taken = taken_kinds(program, function, instruction)
        self.wanted = {location: kind for location, kind in enumerate(taken, start=count - len(taken))}
        self.loaded = instruction[1] if instruction[0] == "load" else None

    def fails(self, location, kind):
        """Tells whether the instruction cannot be executed with a value of this kind there."""
        if location == self.loaded:
            return kind == UNSET
        wanted = self.wanted.get(location)
        return wanted is not None and wanted != kind

    def carried(self, news):
        """The locations and kinds to which those in news are carried."""
        return [(target, kind) for location, kind in news for target in self.targets[location]]


class Arrival:
    """A walk that comes to a place with news: pairs of a location and a kind."""

    def __init__(self, place, earlier, news, is_first):
        self.place = place
        self.earlier = earlier
        self.news = news
        self.is_first = is_first

    def trail(self):
        """The places of the walk, from the entry on."""
        places = []
        arrival = self
        while arrival is not None:
            places.append(arrival.place)
            arrival = arrival.earlier
        places.reverse()
        return tuple(places)


def failing_walk(program, function, heights):
    """(why, walk): the least of the shortest walks that fail with "kind" or "unset", or None.

    The heights of all places that a walk reaches are given, and no walk fails by them.
    """
    passages = {place: Passage(program, function, place, height) for place, height in heights.items()}
    entry = list(enumerate(entry_state(function)[0]))
    known = {0: {fact: True for fact in entry}}
    arrivals = [Arrival(0, None, entry, True)]
    at = 0
    while at < len(arrivals):
        # Arrivals stand in the order of the lengths of their walks, then in that of the walks.
        arrival = arrivals[at]
        passage = passages[arrival.place]
        if any([passage.fails(location, kind) for location, kind in arrival.news]):
            return failure_word(function.body[arrival.place]), arrival.trail()
        behind = passage.carried(arrival.news)
        if arrival.is_first:
            behind.extend(passage.born)
        for place in sorted(successors(function, arrival.place)):
            follow(arrivals, known, arrival, place, behind)
        at += 1
    return None


def follow(arrivals, known, arrival, place, behind):
    """Extends the walk of an arrival by a place if that brings anything new there."""
    is_first = place not in known
    facts = known.setdefault(place, {})
    news = [fact for fact in behind if fact not in facts]
    if news or is_first:
        facts.update({fact: True for fact in news})
        arrivals.append(Arrival(place, arrival, news, is_first))


def failure_word(instruction):
    """The reason with which a walk fails at an instruction for the kind of a value."""
    if instruction[0] == "load":
        return "unset"
    return "kind"
