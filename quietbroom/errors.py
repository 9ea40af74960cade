"""The errors of the package."""

from quietbroom.sequences import frozen


class QuietError(ValueError):
    """The base of all errors of the package."""


class BadProgram(QuietError):
    """The shapes, statics and functions make no program."""

    def __init__(self, part, number, place, why):
        self.part = part
        self.number = number
        self.place = place
        self.why = why


class BadText(QuietError):
    """A line of an assembler text is wrong."""

    def __init__(self, line, why):
        self.line = line
        self.why = why


class BadCode(QuietError):
    """Packed code cannot be read."""

    def __init__(self, at):
        self.at = at


class Refused(QuietError):
    """The code of a program is not accepted."""

    def __init__(self, number, why, walk, other):
        self.number = number
        self.why = why
        self.walk = frozen(walk)
        self.other = frozen(other)


class BadArguments(QuietError):
    """The arguments of a run are not what the entry takes."""


class BadPicture(QuietError):
    """A picture does not fit its program."""

    def __init__(self, part, number, why):
        self.part = part
        self.number = number
        self.why = why


class BadImage(QuietError):
    """A line of an image is wrong."""

    def __init__(self, line, why):
        self.line = line
        self.why = why


class NoRoom(QuietError):
    """The objects of a picture are too large for the memory."""

    def __init__(self, words):
        self.words = words


class NoObject(QuietError):
    """A picture has no object with this number."""

    def __init__(self, number):
        self.number = number
