"""A cycle of the collector: it marks what is held, moves it to the other space and updates the references."""

from quietbroom.barriers import is_white, resolve, resolve_word, shade
from quietbroom.headers import BLACK, WHITE, colour_of, remembered_of, state_word
from quietbroom.heaps import block_size, blocks, claim_old, is_young, payload_span
from quietbroom.shapes import size_of
from quietbroom.words import address_of, is_reference
from quietbroom.young import collect_young


def collect(heap, rows):
    """Does one step of the collector; returns what it did."""
    step = STEPS[heap.phase]
    return step(heap, rows)


def finish(heap, rows):
    """Does steps until no cycle is under way; returns how many."""
    count = 0
    while heap.phase != "idle":
        collect(heap, rows)
        count += 1
    return count


def collect_all(heap, rows):
    """Finishes a cycle that is under way and does a whole one; returns the number of steps."""
    count = finish(heap, rows)
    collect(heap, rows)
    return count + 1 + finish(heap, rows)


def begin(heap, rows):
    """Begins a cycle."""
    collect_young(heap, rows)
    heap.phase = "marking"
    shade_rows(heap, rows)
    return "begin"


def mark_on(heap, rows):
    """Marks from one gray block, or ends the marking if the rows lead to no white block."""
    if heap.grays:
        mark(heap, heap.grays.pop(0))
        return "mark"
    collect_young(heap, rows)
    shade_rows(heap, rows)
    if heap.grays:
        return "rescan"
    heap.phase = "moving"
    heap.cursor = heap.base
    heap.pending = black_words(heap)
    return "marked"


def shade_rows(heap, rows):
    """Shades the white blocks to which the rows refer, behind a collection of the young blocks."""
    for row in rows:
        for word in row:
            if is_reference(word) and is_white(heap, address_of(word)):
                shade(heap, address_of(word))


def mark(heap, block):
    """Shades the old white blocks to which a gray block refers, and makes it black."""
    low, high = payload_span(heap, block)
    payload = heap.words[low:high]
    for word in payload:
        if is_reference(word) and not is_young(heap, address_of(word)) and is_white(heap, address_of(word)):
            shade(heap, address_of(word))
    heap.words[block + 1] = state_word(BLACK, remembered_of(heap.words[block + 1]), 0)


def black_words(heap):
    """The sum of the sizes of the black blocks of this space."""
    found = blocks(heap, heap.base, heap.top)
    return sum([size_of(length) for _, _, length, colour, _, _ in found if colour == BLACK])


def move_on(heap, rows):
    """Moves or skips the block at the cursor, or ends the moving."""
    if heap.cursor >= heap.top:
        heap.phase = "updating"
        heap.cursor = heap.other_base
        return "moved"
    block = heap.cursor
    heap.cursor += block_size(heap, block)
    if colour_of(heap.words[block + 1]) != BLACK:
        return "skip"
    move(heap, block)
    return "move"


def move(heap, block):
    """Copies a black block to the other space."""
    size = block_size(heap, block)
    remembered = remembered_of(heap.words[block + 1])
    copy = claim_old(heap, size)
    heap.words[copy:copy + size] = heap.words[block:block + size]
    heap.words[copy + 1] = state_word(WHITE, remembered, 0)
    heap.words[block + 1] = state_word(BLACK, 0, copy)
    heap.pending -= size


def update_on(heap, rows):
    """Updates the block at the cursor, or ends the cycle."""
    if heap.cursor >= heap.other_top:
        end(heap, rows)
        return "done"
    update_payload(heap, heap.cursor)
    heap.cursor += block_size(heap, heap.cursor)
    return "update"


def update_payload(heap, block):
    """Resolves the words in the payload of a block."""
    low, high = payload_span(heap, block)
    update_words(heap, heap.words, low, high)


def update_words(heap, words, low, high):
    """Resolves the words from one index to another, in place."""
    words[low:high] = [resolve_word(heap, word) for word in words[low:high]]


def end(heap, rows):
    """Resolves all references that may still lead to this space, empties it, and exchanges the spaces."""
    for row in rows:
        update_words(heap, row, 0, len(row))
    young_blocks = blocks(heap, 1, heap.young_top)
    for block in young_blocks:
        update_payload(heap, block[0])
    heap.remembered[:] = [resolve(heap, address) for address in heap.remembered]
    heap.words[heap.base:heap.base + heap.capacity] = [0] * heap.capacity
    left = heap.base
    heap.base = heap.other_base
    heap.top = heap.other_top
    heap.other_base = left
    heap.other_top = left
    heap.cursor = 0
    heap.phase = "idle"


STEPS = {"idle": begin, "marking": mark_on, "moving": move_on, "updating": update_on}
