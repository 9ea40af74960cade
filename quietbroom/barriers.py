"""Reads and writes payload words, whatever the collector has done so far."""

from quietbroom.headers import BLACK, GRAY, WHITE, colour_of, forward_of, remembered_of, state_word
from quietbroom.heaps import HEADER_WORDS, is_copying, is_young
from quietbroom.words import address_of, is_reference, reference_word


def resolve(heap, address):
    """Where the block that is known by this address lies now."""
    # At the last address of a space no block begins: its header would not fit.
    if is_copying(heap) and heap.base <= address < heap.base + heap.capacity - 1:
        forward = forward_of(heap.words[address + 1])
        if forward != 0:
            return forward
    return address


def resolve_word(heap, word):
    """The word with its address resolved if it is a reference."""
    if is_reference(word):
        return reference_word(resolve(heap, address_of(word)))
    return word


def read_word(heap, address, place):
    """The payload word at a place of a block."""
    return resolve_word(heap, heap.words[resolve(heap, address) + HEADER_WORDS + place])


def write_word(heap, address, place, word):
    """Stores a payload word at a place of a block, and keeps what the collector relies on."""
    holder = resolve(heap, address)
    stored = resolve_word(heap, word)
    heap.words[holder + HEADER_WORDS + place] = stored
    if is_reference(stored) and not is_young(heap, holder):
        note_reference(heap, holder, address_of(stored))


def note_reference(heap, holder, target):
    """Takes note of a reference that an old block holds from now on."""
    state = heap.words[holder + 1]
    if is_young(heap, target):
        if remembered_of(state) == 0:
            heap.words[holder + 1] = state_word(colour_of(state), 1, forward_of(state))
            heap.remembered.append(holder)
    elif heap.phase == "marking" and colour_of(state) == BLACK and is_white(heap, target):
        shade(heap, target)


def is_white(heap, address):
    """Tells whether the block at an address is white."""
    return colour_of(heap.words[address + 1]) == WHITE


def shade(heap, address):
    """Makes a white block gray."""
    state = heap.words[address + 1]
    heap.words[address + 1] = state_word(GRAY, remembered_of(state), forward_of(state))
    heap.grays.append(address)
