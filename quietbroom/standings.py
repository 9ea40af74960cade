"""What a machine has besides its objects: statics, frames and the two lists."""

from quietbroom.checker import check
from quietbroom.errors import BadArguments
from quietbroom.faults import is_integer
from quietbroom.pictures import shown
from quietbroom.shapes import blank_word
from quietbroom.words import MAX_NUMBER, MIN_NUMBER, NIL, number_word


class Frame:
    """A call of a function that has not ended; in the beginning the slots hold the arguments."""

    def __init__(self, function, arguments, place=0, stack=()):
        self.function = function
        self.place = place
        self.slots = list(arguments) + [NIL] * (function.slots - len(arguments))
        self.stack = list(stack)


class Standing:
    """The statics, the frames from the bottom one, and the watched and the parted list."""

    def __init__(self, statics, frames, watched, parted):
        self.statics = statics
        self.frames = frames
        self.watched = watched
        self.parted = parted

    def settling_rows(self):
        """The root rows but for the watched and the parted list."""
        rows = [self.statics]
        for frame in self.frames:
            rows.extend([frame.slots, frame.stack])
        return rows

    def rows(self):
        """All root rows."""
        return self.settling_rows() + [self.watched, self.parted]

    def frame_parts(self):
        """The frames as a picture has them."""
        return [(frame.function.name, frame.place, frame.slots, frame.stack) for frame in self.frames]


def first_standing(program, arguments):
    """The standing in which a run begins; raises Refused or BadArguments."""
    check(program)
    if not are_arguments(arguments, len(program.functions[0].params)):
        raise BadArguments()
    statics = [blank_word(kind) for _, kind in program.statics]
    words = [number_word(argument) for argument in arguments]
    return Standing(statics, [Frame(program.functions[0], words)], [], [])


def resumed_standing(program, picture, numbers):
    """The standing that a picture shows, with other numbers for its objects."""
    frames = [
        Frame(program.function(name), shown(slots, numbers), place, shown(stack, numbers))
        for name, place, slots, stack in picture.frames
    ]
    watched = shown(picture.watched, numbers)
    return Standing(shown(picture.statics, numbers), frames, watched, shown(picture.parted, numbers))


def are_arguments(arguments, count):
    """Tells whether these are that many numbers."""
    if not isinstance(arguments, (list, tuple)) or len(arguments) != count:
        return False
    return all([is_integer(argument) and MIN_NUMBER <= argument <= MAX_NUMBER for argument in arguments])
