"""Collects the young blocks: what is held of them goes to an old space, and the nursery is empty."""

from quietbroom.barriers import resolve
from quietbroom.headers import GRAY, WHITE, colour_of, forward_of, state_word
from quietbroom.heaps import block_size, claim_old, is_young, payload_span
from quietbroom.words import address_of, is_reference, reference_word


def collect_young(heap, rows):
    """Empties the nursery."""
    promoted = []
    for row in rows:
        promote_words(heap, row, 0, len(row), promoted)
    for address in list(heap.remembered):
        block = resolve(heap, address)
        promote_payload(heap, block, promoted)
        state = heap.words[block + 1]
        heap.words[block + 1] = state_word(colour_of(state), 0, forward_of(state))
    heap.remembered.clear()
    at = 0
    while at < len(promoted):
        promote_payload(heap, promoted[at], promoted)
        at += 1
    heap.words[1:heap.nursery + 1] = [0] * heap.nursery
    heap.young_top = 1


def promote_payload(heap, block, promoted):
    """Promotes what the payload of a block refers to."""
    low, high = payload_span(heap, block)
    promote_words(heap, heap.words, low, high, promoted)


def promote_words(heap, words, low, high, promoted):
    """Promotes what the words from one index to another refer to."""
    for index in range(low, high):
        word = words[index]
        if is_reference(word) and is_young(heap, address_of(word)):
            words[index] = reference_word(promote(heap, address_of(word), promoted))


def promote(heap, address, promoted):
    """Copies a young block to an old space if that is not done; returns the address of the copy."""
    done = forward_of(heap.words[address + 1])
    if done != 0:
        return done
    size = block_size(heap, address)
    copy = claim_old(heap, size)
    heap.words[copy:copy + size] = heap.words[address:address + size]
    colour = WHITE
    if heap.phase == "marking":
        colour = GRAY
        heap.grays.append(copy)
    heap.words[copy + 1] = state_word(colour, 0, 0)
    heap.words[address + 1] = state_word(WHITE, 0, copy)
    promoted.append(copy)
    return copy
