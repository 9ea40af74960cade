"""Points 45 to 48: the memory, its blocks and what of it is used."""

import unittest

from quietbroom.heaps import Heap, blocks, snapshot
from tests.memory import BLACK, GRAY, PHASES, put, swapped

SIZES = ((0, 0), (1, 0), (1, 1), (2, 1), (10, 0), (10, 4), (10, 10), (20000, 0), (20000, 77), (20000, 20000))


class HeapTest(unittest.TestCase):

    def test_a_new_heap(self):
        for capacity, nursery in SIZES:
            heap = Heap(capacity, nursery)
            first, second = nursery + 1, nursery + 1 + capacity
            self.assertEqual(dict(vars(heap), words=len(heap.words)), {
                "capacity": capacity, "nursery": nursery, "words": 1 + nursery + 2 * capacity, "young_top": 1,
                "base": first, "top": first, "other_base": second, "other_top": second, "phase": "idle", "cursor": 0,
                "grays": [], "remembered": [], "pending": 0})
            self.assertIs(type(heap.words), list)
            self.assertEqual(set(heap.words), {0})
            self.assertEqual(heap.used(), 0)

    def test_by_name(self):
        heap = Heap(nursery=3, capacity=5)
        self.assertEqual((heap.capacity, heap.nursery, len(heap.words)), (5, 3, 14))

    def test_two_heaps_share_nothing(self):
        one, two = Heap(10, 4), Heap(10, 4)
        one.words[3] = 7
        one.grays.append(1)
        one.remembered.append(2)
        self.assertEqual((two.words[3], two.grays, two.remembered), (0, [], []))


class UsedTest(unittest.TestCase):

    def test_in_all_phases(self):
        for phase in PHASES:
            for swap in (False, True):
                heap = swapped(Heap(100, 20)) if swap else Heap(100, 20)
                put(heap, "young", [1, 1])
                put(heap, "this", [1] * 5)
                put(heap, "this", [1] * 3)
                put(heap, "other", [])
                heap.phase = phase
                if phase in ("idle", "marking"):
                    self.assertEqual(heap.used(), 4 + 12)
                else:
                    heap.pending = 7
                    self.assertEqual(heap.used(), 4 + 7 + 2)

    def test_the_parts(self):
        heap = Heap(50, 10)
        heap.young_top = 6
        self.assertEqual(heap.used(), 5)
        heap.top = heap.base + 9
        self.assertEqual(heap.used(), 14)
        heap.phase, heap.pending = "moving", 4
        self.assertEqual(heap.used(), 9)
        heap.other_top = heap.other_base + 3
        self.assertEqual(heap.used(), 12)
        heap.phase, heap.pending = "updating", 0
        self.assertEqual(heap.used(), 8)
        heap.phase = "marking"
        self.assertEqual(heap.used(), 14)


class BlocksTest(unittest.TestCase):

    def test_empty_regions(self):
        for capacity, nursery in SIZES:
            heap = Heap(capacity, nursery)
            self.assertEqual(blocks(heap, 1, heap.young_top), ())
            self.assertEqual(blocks(heap, heap.base, heap.top), ())
            self.assertEqual(blocks(heap, heap.other_base, heap.other_top), ())

    def test_all_regions(self):
        for phase in PHASES:
            for heap in (Heap(40, 12), swapped(Heap(40, 12))):
                heap.phase = phase
                other = heap.other_base
                young = [put(heap, "young", [3], 5), put(heap, "young", [], 39), put(heap, "young", [1, 0, 2], 0, forward=30)]
                old = [put(heap, "this", [1, 2, 4], 7, BLACK, 1), put(heap, "this", [], 1, GRAY), put(heap, "this", [0], 2, 0, 1)]
                moved = [put(heap, "other", [], 3), put(heap, "other", [9] * 20, 4)]
                self.assertEqual(young, [1, 4, 6])
                self.assertEqual(blocks(heap, 1, heap.young_top), (
                    (1, 5, 1, 0, 0, 0), (4, 39, 0, 0, 0, 0), (6, 0, 3, 0, 0, 30)))
                self.assertEqual(old, [heap.base, heap.base + 5, heap.base + 7])
                self.assertEqual(blocks(heap, heap.base, heap.top), (
                    (old[0], 7, 3, 2, 1, 0), (old[1], 1, 0, 1, 0, 0), (old[2], 2, 1, 0, 1, 0)))
                self.assertEqual(moved, [other, other + 2])
                self.assertEqual(blocks(heap, other, heap.other_top), ((other, 3, 0, 0, 0, 0), (other + 2, 4, 20, 0, 0, 0)))

    def test_a_part_of_a_region(self):
        heap = Heap(40, 0)
        one, two, three = [put(heap, "this", [1] * length, length) for length in (2, 0, 1)]
        self.assertEqual(blocks(heap, two, heap.top), ((two, 0, 0, 0, 0, 0), (three, 1, 1, 0, 0, 0)))
        self.assertEqual(blocks(heap, one, three), ((one, 2, 2, 0, 0, 0), (two, 0, 0, 0, 0, 0)))
        self.assertEqual(blocks(heap, two, two), ())
        self.assertEqual(blocks(heap, heap.top, heap.top), ())

    def test_a_full_region(self):
        heap = Heap(1002, 5)
        put(heap, "this", [0] * 1000, 39, BLACK)
        self.assertEqual(blocks(heap, heap.base, heap.top), ((6, 39, 1000, 2, 0, 0),))
        self.assertEqual(heap.top, heap.other_base)

    def test_kinds_of_answers(self):
        heap = Heap(40, 0)
        address = put(heap, "this", [1])
        told = blocks(low=address, high=heap.top, heap=heap)
        self.assertEqual([type(told), type(told[0])], [tuple, tuple])


class SnapshotTest(unittest.TestCase):

    def test_a_new_heap(self):
        self.assertEqual(snapshot(Heap(2, 1)), ("idle", 1, 2, 2, 4, 4, 0, (), (), 0, (0,) * 6))
        self.assertEqual(snapshot(heap=Heap(0, 0)), ("idle", 1, 1, 1, 1, 1, 0, (), (), 0, (0,)))

    def test_the_order_of_the_parts(self):
        heap = Heap(2, 1)
        heap.phase, heap.young_top, heap.base, heap.top, heap.other_base, heap.other_top = "moving", 11, 12, 13, 14, 15
        heap.cursor, heap.grays, heap.remembered, heap.pending = 16, [17, 18], [19], 20
        heap.words[5] = 21
        self.assertEqual(snapshot(heap), ("moving", 11, 12, 13, 14, 15, 16, (17, 18), (19,), 20, (0, 0, 0, 0, 0, 21)))

    def test_it_is_of_tuples_and_not_changed_by_later_deeds(self):
        heap = Heap(20, 5)
        heap.grays.append(6)
        before = snapshot(heap)
        self.assertEqual([type(before)] + [type(before[place]) for place in (7, 8, 10)], [tuple] * 4)
        copy = tuple(before)
        heap.grays.append(7)
        heap.remembered.append(8)
        put(heap, "this", [1, 2, 3], 4, BLACK)
        heap.phase, heap.cursor, heap.pending = "updating", 3, 9
        self.assertEqual(before, copy)
        self.assertNotEqual(snapshot(heap), before)

    def test_taking_it_changes_nothing(self):
        heap = Heap(20, 5)
        put(heap, "young", [1, 2])
        before = snapshot(heap)
        blocks(heap, 1, heap.young_top)
        heap.used()
        self.assertEqual(snapshot(heap), before)


if __name__ == "__main__":
    unittest.main()
