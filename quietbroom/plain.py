"""The plain machine: it numbers its objects, never takes one away, and counts what is held."""

from quietbroom.graphs import held_order, program_settling, words_of
from quietbroom.pictures import picture_of
from quietbroom.shapes import size_of
from quietbroom.standings import first_standing
from quietbroom.stepping import step
from quietbroom.words import address_of, reference_word


class PlainMachine:
    """A run of a program in which object number n is known by reference_word(n + 1)."""

    def __init__(self, program, arguments=(), *, limit=None):
        self.standing = first_standing(program, arguments)
        self.program = program
        self.limit = limit
        self.objects = []
        self.births = 0
        self.told = ()
        self.outcome = None
        self.steps = 0
        self.settlings = 0

    def advance(self):
        """Executes the next instruction; tells whether it was executed to its end."""
        return step(self)

    def picture(self):
        """The picture of the standing at this moment."""
        standing = self.standing
        frames = standing.frame_parts()
        return picture_of(standing.statics, frames, standing.watched, standing.parted, self.objects)

    def birth_numbers(self):
        """The birth numbers of the held objects, in the order of the picture."""
        return held_order(self.standing.rows(), self.objects)

    def held_words(self):
        """The sum of the sizes of the held objects."""
        return words_of(self.birth_numbers(), self.objects)

    def new_object(self, shape, length):
        """The reference to a new blank object, or None if there is no room for it."""
        payload = list(shape.blank(length))
        if not self.find_room(size_of(len(payload))):
            return None
        self.objects.append((shape.name, payload))
        self.births += 1
        return reference_word(self.births)

    def find_room(self, size):
        """Tells whether there is room for an object of this size, if need be behind a settling."""
        if self.limit is None or self.held_words() + size <= self.limit:
            return True
        self.settle()
        return self.held_words() + size <= self.limit

    def settle(self):
        """Settles."""
        standing = self.standing
        watched, parted, objects = program_settling(
            self.program, standing.settling_rows(), standing.watched, standing.parted, self.objects
        )
        standing.watched = list(watched)
        standing.parted = list(parted)
        self.objects = [(name, list(payload)) for name, payload in objects]
        self.settlings += 1

    def payload(self, word):
        """The payload of an object."""
        _, words = self.objects[address_of(word) - 1]
        return words

    def read(self, word, place):
        """A payload word of an object."""
        return self.payload(word)[place]

    def write(self, word, place, value):
        """Stores a payload word of an object."""
        self.payload(word)[place] = value

    def length(self, word):
        """The length of the payload of an object."""
        return len(self.payload(word))

    def shape_name(self, word):
        """The name of the shape of an object."""
        return self.objects[address_of(word) - 1][0]

    def is_same(self, one, two):
        """Tells whether two references lead to the same object, or nowhere."""
        return one == two
