"""The objects in a memory, whatever the collector has done so far."""

from quietbroom.barriers import resolve_word
from quietbroom.graphs import met_order
from quietbroom.headers import shape_number_of
from quietbroom.heaps import payload_span


def resolved(heap, words):
    """The words with their addresses resolved."""
    return [resolve_word(heap, word) for word in words]


def resolved_payload(heap, address):
    """The resolved payload words of the block at a resolved address."""
    low, high = payload_span(heap, address)
    return resolved(heap, heap.words[low:high])


def shape_at(heap, program, address):
    """The shape of the block at a resolved address."""
    return program.shapes[shape_number_of(heap.words[address])]


def object_at(heap, program, address):
    """The block at a resolved address as a pair of the name of its shape and its payload."""
    return shape_at(heap, program, address).name, resolved_payload(heap, address)


def held_addresses(heap, rows):
    """The resolved addresses of the held blocks, in the order in which they are met."""
    def payload_of(number):
        return resolved_payload(heap, number + 1)

    numbers = met_order([resolved(heap, row) for row in rows], payload_of)
    return tuple([number + 1 for number in numbers])


def objects_at(heap, program, addresses):
    """The blocks at resolved addresses as objects by their numbers, for which references need no change."""
    return {address - 1: object_at(heap, program, address) for address in addresses}
