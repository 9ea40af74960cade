"""Puts blocks in a memory by hand."""

WHITE, GRAY, BLACK = 0, 1, 2
TOPS = {"young": "young_top", "this": "top", "other": "other_top"}
PHASES = ("idle", "marking", "moving", "updating")


def put(heap, region, payload, shape=0, colour=WHITE, remembered=0, forward=0):
    """Puts a block at the end of a region of the memory; its address."""
    address = getattr(heap, TOPS[region])
    size = len(payload) + 2
    heap.words[address:address + size] = [64 * len(payload) + shape, 8 * forward + 4 * remembered + colour, *payload]
    setattr(heap, TOPS[region], address + size)
    if remembered:
        heap.remembered.append(address)
    if colour == GRAY:
        heap.grays.append(address)
    return address


def header(heap, address):
    """(shape number, length, colour, remembered, forward) of a block."""
    form, state = heap.words[address:address + 2]
    return form % 64, form // 64, state % 4, state // 4 % 2, state // 8


def payload(heap, address):
    """The payload of a block."""
    return heap.words[address + 2:address + 2 + heap.words[address] // 64]


def in_phase(heap, phase, cursor=None):
    """The memory, set to a phase."""
    heap.phase = phase
    if phase in ("moving", "updating"):
        heap.cursor = heap.base if cursor is None else cursor
    return heap


def swapped(heap):
    """The empty memory with its spaces in the other roles."""
    heap.base, heap.other_base = heap.other_base, heap.base
    heap.top, heap.other_top = heap.base, heap.other_base
    return heap
