"""Point 53: placing a block."""

import copy
import itertools
import unittest

from quietbroom.barriers import read_word, write_word
from quietbroom.heaps import Heap, blocks, snapshot
from quietbroom.placing import place_block
from quietbroom.young import collect_young
from tests.memory import BLACK, GRAY, PHASES, WHITE, header, in_phase, payload, put, swapped
from tests.rules import check_memory

COPYING = ("moving", "updating")


def empty(phase="idle", swap=False, capacity=40, nursery=6):
    """An empty memory in a phase."""
    heap = Heap(capacity, nursery)
    return in_phase(swapped(heap) if swap else heap, phase, heap.other_base if phase == "updating" else None)


class PlaceTest(unittest.TestCase):

    def test_sizes_around_the_nursery(self):
        for phase, swap, length in itertools.product(PHASES, (False, True), range(8)):
            heap = empty(phase, swap)
            before = snapshot(heap)
            address = place_block(heap, [], 7, [3] * length)
            young, old = length + 2 <= 6, length + 2 > 6
            side = "other_base" if phase in COPYING else "base"
            self.assertEqual(address, 1 if young else getattr(heap, side))
            colour = BLACK if old and phase == "marking" else WHITE
            self.assertEqual(header(heap, address), (7, length, colour, 0, 0))
            self.assertEqual(payload(heap, address), [3] * length)
            tops = (heap.young_top - 1, heap.top - heap.base, heap.other_top - heap.other_base)
            size = length + 2
            wanted = (size, 0, 0) if young else (0, 0, size) if phase in COPYING else (0, size, 0)
            self.assertEqual((tops, heap.used()), (wanted, size))
            self.assertEqual((heap.grays, heap.remembered, heap.phase, heap.cursor, heap.pending),
                             ([], [], phase, before[6], 0))
            rest = [word for at, word in enumerate(heap.words) if not address <= at < address + size]
            self.assertEqual(rest, [0] * (len(heap.words) - size))

    def test_behind_other_blocks(self):
        for phase, swap in itertools.product(PHASES, (False, True)):
            heap = empty(phase, swap)
            put(heap, "young", [1])
            this, other = put(heap, "this", [1]), put(heap, "other", [1, 1])
            self.assertEqual(place_block(heap, [], 1, [5]), 4)
            wanted = other + 4 if phase in COPYING else this + 3
            self.assertEqual(place_block(heap, [], 1, [5] * 5), wanted)
            self.assertEqual(place_block(heap, [], 1, [5] * 6), wanted + 7)
            self.assertEqual(heap.young_top, 7)

    def test_without_a_nursery(self):
        for phase, length in itertools.product(PHASES, (0, 1, 5)):
            heap = empty(phase, nursery=0)
            address = place_block(heap, [], 0, [1] * length)
            self.assertEqual(address, heap.other_base if phase in COPYING else heap.base)
            self.assertEqual(header(heap, address), (0, length, BLACK if phase == "marking" else WHITE, 0, 0))

    def test_a_nursery_that_is_too_small_for_any_block(self):
        heap = empty(nursery=1)
        self.assertEqual((place_block(heap, [], 0, []), heap.young_top), (2, 1))

    def test_lengths(self):
        for nursery, length in itertools.product((0, 1001, 1002, 2010), (0, 1, 999, 1000)):
            heap = Heap(2010, nursery)
            words = [number * 2 + 1 for number in range(length)]
            address = place_block(heap, [], 39, words)
            self.assertEqual(address, 1 if length + 2 <= nursery else nursery + 1)
            self.assertEqual((header(heap, address), payload(heap, address)), ((39, length, 0, 0, 0), words))
            self.assertEqual(heap.used(), length + 2)

    def test_shape_numbers(self):
        for number in (0, 1, 38, 39):
            heap = empty()
            self.assertEqual(header(heap, place_block(heap, [], number, [1]))[:2], (number, 1))

    def test_a_memory_that_is_just_full(self):
        for nursery in (0, 4, 8):
            heap = Heap(8, nursery)
            rows = [[2 * place_block(heap, [], 0, [1, 1])]]
            place_block(heap, rows, 0, [1, 1])
            self.assertEqual(heap.used(), 8)
            check_memory(heap, rows)


class FullNurseryTest(unittest.TestCase):

    def test_a_nursery_that_is_just_filled(self):
        heap = empty(nursery=6)
        first = place_block(heap, [], 0, [1])
        second = place_block(heap, [], 0, [1])
        self.assertEqual((first, second, heap.young_top, heap.top), (1, 4, 7, heap.base))

    def test_one_word_too_few(self):
        for phase, swap in itertools.product(PHASES, (False, True)):
            heap = empty(phase, swap, nursery=6)
            first = place_block(heap, [], 5, [9, 0])
            rows = [[1, 2 * first], [2 * first]]
            second = place_block(heap, rows, 6, [7])
            moved = heap.other_base if phase in COPYING else heap.base
            self.assertEqual((first, second, rows, heap.young_top), (1, 1, [[1, 2 * moved], [2 * moved]], 4))
            self.assertEqual(header(heap, moved), (5, 2, GRAY if phase == "marking" else WHITE, 0, 0))
            self.assertEqual((header(heap, 1), payload(heap, 1)), ((6, 1, WHITE, 0, 0), [7]))
            self.assertEqual(heap.grays, [moved] if phase == "marking" else [])
            self.assertEqual((heap.words[4:7], heap.used()), ([0, 0, 0], 7))

    def test_it_is_the_same_as_collecting_the_young_blocks_first(self):
        for phase in PHASES:
            heap = empty(phase, nursery=9)
            old = place_block(heap, [], 1, [0] * 8)
            first, second = place_block(heap, [], 2, [0, 1]), place_block(heap, [], 3, [0])
            write_word(heap, old, 3, 2 * first)
            write_word(heap, first, 0, 2 * first)
            other, rows = copy.deepcopy(heap), [[2 * second], [2 * old]]
            other_rows = copy.deepcopy(rows)
            collect_young(other, other_rows)
            self.assertEqual(place_block(other, other_rows, 4, [1]), place_block(heap, rows, 4, [1]))
            self.assertEqual((snapshot(heap), rows), (snapshot(other), other_rows))

    def test_what_is_not_held_is_gone(self):
        heap = empty(nursery=6)
        for _ in range(20):
            place_block(heap, [], 0, [1])
        self.assertEqual((heap.used(), heap.young_top), (6, 7))

    def test_remembered_blocks_hold(self):
        heap = empty(nursery=3)
        old = place_block(heap, [], 0, [0, 0])
        write_word(heap, old, 1, 2 * place_block(heap, [], 0, [5]))
        place_block(heap, [], 0, [7])
        self.assertEqual((read_word(heap, old, 1), heap.remembered), (2 * old + 8, []))
        self.assertEqual(payload(heap, old + 4), [5])

    def test_a_large_block_does_not_empty_the_nursery(self):
        heap = empty(nursery=6)
        young = place_block(heap, [], 0, [1, 1, 1, 1])
        rows = [[2 * young]]
        place_block(heap, rows, 0, [1] * 5)
        self.assertEqual((heap.young_top, rows), (7, [[2]]))


class ArgumentsTest(unittest.TestCase):

    def test_lists_and_tuples(self):
        for kind in (list, tuple):
            heap = empty(nursery=4)
            words, rows = kind((1, 0, 5, -9)), kind([[0, 1], [3]])
            address = place_block(heap, rows, 2, words)
            self.assertEqual((payload(heap, address), words, rows), ([1, 0, 5, -9], kind((1, 0, 5, -9)), kind([[0, 1], [3]])))

    def test_the_payload_may_be_changed_afterwards(self):
        heap = empty()
        words = [1, 3]
        address = place_block(heap, [], 0, words)
        words[0] = 9
        self.assertEqual(payload(heap, address), [1, 3])

    def test_by_name(self):
        heap = empty()
        self.assertEqual(place_block(heap=heap, rows=(), shape_number=3, payload=()), 1)
        self.assertEqual(place_block(heap, rows=[], shape_number=3, payload=[1]), 3)

    def test_rows_are_changed_in_place(self):
        heap = empty(nursery=3)
        row = [2 * place_block(heap, [], 0, [1])]
        rows = (row,)
        place_block(heap, rows, 0, [1])
        self.assertIs(rows[0], row)
        self.assertEqual(row, [2 * heap.base])

    def test_examples(self):
        heap = Heap(12, 3)
        old = place_block(heap, [], 1, [0, 0])
        young = place_block(heap, [], 0, [1])
        write_word(heap, old, 1, 2 * young)
        self.assertEqual((old, young, heap.used(), blocks(heap, heap.base, heap.top), heap.remembered, read_word(heap, old, 1)),
                         (4, 1, 7, ((4, 1, 2, 0, 1, 0),), [4], 2))
        rows = [[2 * old, 3]]
        collect_young(heap, rows)
        self.assertEqual((rows, snapshot(heap)[:10], heap.words[4:11]), (
            [[8, 3]], ("idle", 1, 4, 11, 16, 16, 0, (), (), 0), [129, 0, 0, 16, 64, 0, 1]))


if __name__ == "__main__":
    unittest.main()
