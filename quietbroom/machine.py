"""The real machine: its objects lie in a memory that a collector works on between any two instructions."""

from quietbroom.barriers import read_word, resolve, resolve_word, write_word
from quietbroom.cycle import collect, collect_all, finish
from quietbroom.headers import length_of
from quietbroom.heap_objects import held_addresses, objects_at, resolved, shape_at
from quietbroom.heaps import Heap, block_size
from quietbroom.pictures import picture_of
from quietbroom.placing import place_block
from quietbroom.sequences import frozen
from quietbroom.settling import heap_settling
from quietbroom.shapes import size_of
from quietbroom.standings import first_standing
from quietbroom.stepping import step
from quietbroom.words import address_of, reference_word
from quietbroom.young import collect_young


class Machine:
    """A run of a program in which an object is known by an address that its block has or had."""

    def __init__(self, program, arguments=(), *, capacity, nursery=0, pace=0):
        self.standing = first_standing(program, arguments)
        self.program = program
        self.heap = Heap(capacity, nursery)
        self.pace = pace
        self.told = ()
        self.outcome = None
        self.steps = 0
        self.settlings = 0
        self.forced = 0

    def advance(self):
        """Executes the next instruction; tells whether it was executed to its end."""
        return step(self)

    def picture(self):
        """The picture of the standing at this moment."""
        standing = self.standing
        frames = [
            (name, place, resolved(self.heap, slots), resolved(self.heap, stack))
            for name, place, slots, stack in standing.frame_parts()
        ]
        rows = [resolved(self.heap, row) for row in (standing.statics, standing.watched, standing.parted)]
        statics, watched, parted = rows
        objects = objects_at(self.heap, self.program, self.addresses())
        return picture_of(statics, frames, watched, parted, objects)

    def root_rows(self):
        """The root rows at this moment, with addresses that need not be resolved."""
        return frozen(self.standing.rows())

    def addresses(self):
        """The resolved addresses of the held objects, in the order of the picture."""
        return held_addresses(self.heap, self.standing.rows())

    def held_words(self):
        """The sum of the sizes of the held objects."""
        return sum([block_size(self.heap, address) for address in self.addresses()])

    def waste(self):
        """The words that count against the capacity though no held object takes them."""
        return self.heap.used() - self.held_words()

    def collect(self):
        """Does one step of the collector; returns what it did."""
        return collect(self.heap, self.standing.rows())

    def collect_young(self):
        """Empties the nursery."""
        collect_young(self.heap, self.standing.rows())

    def finish(self):
        """Finishes the collector's cycle; returns the number of steps."""
        return finish(self.heap, self.standing.rows())

    def collect_all(self):
        """Finishes the collector's cycle and does a whole one; returns the number of steps."""
        return collect_all(self.heap, self.standing.rows())

    def new_object(self, shape, length):
        """The reference to a new blank object, or None if there is no room for it."""
        payload = shape.blank(length)
        if not self.find_room(size_of(len(payload))):
            return None
        number = self.program.shape_number(shape.name)
        return reference_word(place_block(self.heap, self.standing.rows(), number, payload))

    def find_room(self, size):
        """Tells whether there is room for an object of this size; seeks it if need be."""
        rows = self.standing.rows()
        for _ in range(self.pace * size):
            collect(self.heap, rows)
        if self.has_room(size):
            return True
        self.forced += 1
        finish(self.heap, rows)
        if not self.has_room(size):
            collect_all(self.heap, rows)
        if not self.has_room(size):
            self.settle()
            collect_all(self.heap, rows)
        return self.has_room(size)

    def has_room(self, size):
        """Tells whether an object of this size can be placed at once."""
        return self.heap.used() + size <= self.heap.capacity

    def settle(self):
        """Settles."""
        standing = self.standing
        heap_settling(self.heap, self.program, standing.settling_rows(), standing.watched, standing.parted)
        self.settlings += 1

    def read(self, word, place):
        """A payload word of an object."""
        return read_word(self.heap, address_of(word), place)

    def write(self, word, place, value):
        """Stores a payload word of an object."""
        write_word(self.heap, address_of(word), place, value)

    def length(self, word):
        """The length of the payload of an object."""
        return length_of(self.heap.words[resolve(self.heap, address_of(word))])

    def shape_name(self, word):
        """The name of the shape of an object."""
        return shape_at(self.heap, self.program, resolve(self.heap, address_of(word))).name

    def is_same(self, one, two):
        """Tells whether two references lead to the same object, or nowhere."""
        return resolve_word(self.heap, one) == resolve_word(self.heap, two)
