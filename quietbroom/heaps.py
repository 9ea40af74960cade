"""The memory of the real machine: a list of words with a nursery and two old spaces."""

from quietbroom.headers import colour_of, forward_of, length_of, remembered_of, shape_number_of
from quietbroom.shapes import size_of

# The words of a block ahead of its payload.
HEADER_WORDS = 2


class Heap:
    """A memory; in the beginning with nothing in it."""

    def __init__(self, capacity, nursery):
        self.capacity = capacity
        self.nursery = nursery
        self.words = [0] * (1 + nursery + 2 * capacity)
        self.young_top = 1
        self.base = nursery + 1
        self.top = self.base
        self.other_base = self.base + capacity
        self.other_top = self.other_base
        self.phase = "idle"
        self.cursor = 0
        self.grays = []
        self.remembered = []
        self.pending = 0

    def used(self):
        """The words that count against the capacity."""
        young = self.young_top - 1
        if is_copying(self):
            return young + self.pending + self.other_top - self.other_base
        return young + self.top - self.base


def is_copying(heap):
    """Tells whether blocks are leaving this space for the other one."""
    return heap.phase in ("moving", "updating")


def is_young(heap, address):
    """Tells whether an address lies in the nursery."""
    return 1 <= address <= heap.nursery


def block_size(heap, address):
    """The size of the block at an address."""
    return size_of(length_of(heap.words[address]))


def payload_span(heap, address):
    """Where the payload of the block at an address begins, and where it ends."""
    low = address + HEADER_WORDS
    return low, low + length_of(heap.words[address])


def claim_old(heap, size):
    """Takes as many words of the old space that grows in this phase; returns their address."""
    if is_copying(heap):
        address = heap.other_top
        heap.other_top += size
    else:
        address = heap.top
        heap.top += size
    return address


def blocks(heap, low, high):
    """The blocks from one address to another, each as (address, shape number, length, colour, remembered, forward)."""
    found = []
    address = low
    while address < high:
        form, state = heap.words[address:address + HEADER_WORDS]
        found.append((
            address, shape_number_of(form), length_of(form), colour_of(state), remembered_of(state), forward_of(state)
        ))
        address += block_size(heap, address)
    return tuple(found)


def snapshot(heap):
    """All attributes but the capacity and the nursery, with tuples for the lists."""
    return (
        heap.phase, heap.young_top, heap.base, heap.top, heap.other_base, heap.other_top, heap.cursor,
        tuple(heap.grays), tuple(heap.remembered), heap.pending, tuple(heap.words),
    )
