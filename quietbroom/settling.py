"""Settles on the heap."""

from quietbroom.cycle import finish
from quietbroom.graphs import parting, settled_payload, strong_table
from quietbroom.heap_objects import objects_at
from quietbroom.heaps import blocks, payload_span
from quietbroom.young import collect_young


def heap_settling(heap, program, rows, watched, parted):
    """Clears weak cells and pairs, and lets watched references part; the rows are without the two lists."""
    all_rows = [*rows, watched, parted]
    finish(heap, all_rows)
    collect_young(heap, all_rows)
    addresses = [block[0] for block in blocks(heap, heap.base, heap.top)]
    objects = objects_at(heap, program, addresses)
    strong = strong_table(program, (*rows, parted), objects)
    for number, (name, payload) in objects.items():
        low, high = payload_span(heap, number + 1)
        heap.words[low:high] = settled_payload(program.shape(name), payload, strong)
    stays, parts = parting(watched, strong)
    watched[:] = stays
    parted.extend(parts)
