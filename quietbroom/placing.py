"""Puts new blocks in the memory."""

from quietbroom.headers import BLACK, WHITE, form_word, state_word
from quietbroom.heaps import claim_old
from quietbroom.shapes import size_of
from quietbroom.young import collect_young


def place_block(heap, rows, shape_number, payload):
    """Puts a new block with this payload, which contains no reference, in the memory; returns its address."""
    size = size_of(len(payload))
    colour = WHITE
    if size <= heap.nursery:
        address = claim_young(heap, rows, size)
    else:
        address = claim_old(heap, size)
        # It refers to nothing, so there is nothing to mark from it.
        if heap.phase == "marking":
            colour = BLACK
    write_block(heap, address, shape_number, colour, payload)
    return address


def write_block(heap, address, shape_number, colour, payload):
    """Writes the words of a new block at an address."""
    header = [form_word(shape_number, len(payload)), state_word(colour, 0, 0)]
    heap.words[address:address + size_of(len(payload))] = [*header, *payload]


def claim_young(heap, rows, size):
    """Takes as many words of the nursery, which is emptied first if they are not free; returns their address."""
    if heap.young_top + size > heap.nursery + 1:
        collect_young(heap, rows)
    address = heap.young_top
    heap.young_top += size
    return address
