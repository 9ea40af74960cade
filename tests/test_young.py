"""Points 54 and 55: collecting the young blocks."""

import itertools
import random
import unittest

from quietbroom.heaps import Heap, blocks, snapshot
from quietbroom.young import collect_young
from tests.memory import BLACK, GRAY, PHASES, WHITE, header, in_phase, payload, put, swapped

COPYING = ("moving", "updating")


def young_heap(phase="idle", swap=False, capacity=60, nursery=30):
    """An empty memory in a phase."""
    heap = Heap(capacity, nursery)
    return in_phase(swapped(heap) if swap else heap, phase)


def grown(heap):
    """The beginning and the end of the space that takes what is promoted."""
    return (heap.other_base, heap.other_top) if heap.phase in COPYING else (heap.base, heap.top)


class YoungTest(unittest.TestCase):

    def empty_nursery(self, heap):
        self.assertEqual((heap.young_top, heap.remembered), (1, []))
        self.assertEqual(heap.words[:heap.nursery + 1], [0] * (heap.nursery + 1))

    def test_an_empty_memory(self):
        for phase, swap, nursery in itertools.product(PHASES, (False, True), (0, 1, 30)):
            heap = young_heap(phase, swap, nursery=nursery)
            before = snapshot(heap)
            rows = [[0, 1, -3], []]
            self.assertIsNone(collect_young(heap, rows))
            self.assertIsNone(collect_young(heap, []))
            self.assertIsNone(collect_young(heap=heap, rows=()))
            self.assertEqual((snapshot(heap), rows), (before, [[0, 1, -3], []]))

    def test_no_rows(self):
        heap = young_heap()
        for length in range(4):
            put(heap, "young", [1] * length)
        collect_young(heap, [])
        self.empty_nursery(heap)
        self.assertEqual((heap.top, heap.used()), (heap.base, 0))

    def test_where_the_copy_lies_in_each_phase(self):
        for phase, swap in itertools.product(PHASES, (False, True)):
            heap = young_heap(phase, swap)
            this, other = put(heap, "this", [1]), put(heap, "other", [3])
            put(heap, "young", [9])
            young = put(heap, "young", [5, 0, 7], 39)
            ends = heap.top, heap.other_top
            rows = [[2 * young]]
            collect_young(heap, rows)
            self.empty_nursery(heap)
            address = rows[0][0] // 2
            if phase in COPYING:
                self.assertEqual((address, heap.top, heap.other_top), (ends[1], ends[0], ends[1] + 5))
            else:
                self.assertEqual((address, heap.top, heap.other_top), (ends[0], ends[0] + 5, ends[1]))
            colour = GRAY if phase == "marking" else WHITE
            self.assertEqual((header(heap, address), payload(heap, address)), ((39, 3, colour, 0, 0), [5, 0, 7]))
            self.assertEqual(heap.grays, [address] if phase == "marking" else [])
            self.assertEqual((header(heap, this), header(heap, other)), ((0, 1, 0, 0, 0), (0, 1, 0, 0, 0)))

    def test_rows_are_changed_in_place(self):
        heap = young_heap()
        old = put(heap, "this", [1])
        young = put(heap, "young", [1])
        row, other = [1, 2 * young, 0, 2 * old, 2 * young], [2 * old]
        rows = ([], row, other)
        collect_young(heap, rows)
        copy = old + 3
        self.assertIs(rows[1], row)
        self.assertEqual((row, other), ([1, 2 * copy, 0, 2 * old, 2 * copy], [2 * old]))

    def test_the_order_of_promotion(self):
        for phase in PHASES:
            heap = young_heap(phase)
            # Known by the numbers of their shapes; 1 refers to 5 and 6, 4 to 7, 5 to 8.
            young = {number: put(heap, "young", [], number) for number in (8, 7, 6, 3)}
            young[5] = put(heap, "young", [2 * young[8]], 5)
            young[4] = put(heap, "young", [2 * young[7], 2 * young[3]], 4)
            young[2] = put(heap, "young", [], 2)
            young[1] = put(heap, "young", [2 * young[5], 0, 2 * young[6]], 1)
            rows = [[1, 2 * young[3], 2 * young[1]], [0, 2 * young[2], 2 * young[1]], [2 * young[4]]]
            collect_young(heap, rows)
            low, high = grown(heap)
            self.assertEqual([block[1] for block in blocks(heap, low, high)], [3, 1, 2, 4, 5, 6, 7, 8])
            if phase == "marking":
                self.assertEqual(heap.grays, [block[0] for block in blocks(heap, low, high)])

    def test_rows_then_remembered_then_promoted(self):
        heap = young_heap()
        young = {number: put(heap, "young", [], number) for number in (1, 2, 3, 4)}
        young[5] = put(heap, "young", [2 * young[3], 2 * young[4]], 5)
        one = put(heap, "this", [2 * young[1], 2 * young[4]], 10, WHITE, 1)
        two = put(heap, "this", [2 * young[2], 1, 2 * young[5]], 11, WHITE, 1)
        heap.remembered = [two, one]
        rows = [[2 * young[3]]]
        collect_young(heap, rows)
        self.empty_nursery(heap)
        promoted = blocks(heap, two + 5, heap.top)
        self.assertEqual([block[1] for block in promoted], [3, 2, 5, 1, 4])
        at = {block[1]: 2 * block[0] for block in promoted}
        self.assertEqual((payload(heap, one), payload(heap, two)), ([at[1], at[4]], [at[2], 1, at[5]]))
        self.assertEqual((payload(heap, at[5] // 2), rows), ([at[3], at[4]], [[at[3]]]))
        self.assertEqual((header(heap, one), header(heap, two)), ((10, 2, 0, 0, 0), (11, 3, 0, 0, 0)))

    def test_only_remembered_blocks_are_looked_at(self):
        heap = young_heap()
        young = put(heap, "young", [1])
        put(heap, "this", [3])
        heap.words[heap.base + 2] = 2 * young + 1
        old = put(heap, "this", [2 * young])
        collect_young(heap, [])
        self.assertEqual((heap.top, payload(heap, old)), (old + 3, [2 * young]))

    def test_a_remembered_block_without_young_references(self):
        heap = young_heap("marking")
        old = put(heap, "this", [1, 0, 5], 3, BLACK, 1)
        collect_young(heap, [])
        self.assertEqual((header(heap, old), payload(heap, old), heap.remembered), ((3, 3, BLACK, 0, 0), [1, 0, 5], []))

    def test_the_colour_of_a_remembered_block_stays(self):
        for phase, colour in itertools.product(PHASES, (WHITE, GRAY, BLACK)):
            heap = young_heap(phase)
            young = put(heap, "young", [1])
            old = put(heap, "this", [2 * young], 3, colour, 1)
            grays = list(heap.grays)
            collect_young(heap, [])
            low, high = grown(heap)
            copy = high - 3
            self.assertEqual((header(heap, old), payload(heap, old)), ((3, 1, colour, 0, 0), [2 * copy]))
            self.assertEqual(heap.grays, grays + [copy] if phase == "marking" else grays)

    def test_remembered_addresses_are_resolved(self):
        for phase in COPYING:
            heap = young_heap(phase)
            young = put(heap, "young", [1])
            copy = put(heap, "other", [2 * young, 1], 4, WHITE, 1)
            old = put(heap, "this", [2 * young, 1], 4, BLACK, 0, copy)
            heap.remembered = [old]
            collect_young(heap, [])
            self.assertEqual((header(heap, copy), header(heap, old)), ((4, 2, 0, 0, 0), (4, 2, 2, 0, copy)))
            self.assertEqual((payload(heap, copy), payload(heap, old)), ([2 * copy + 8, 1], [2 * young, 1]))
            self.empty_nursery(heap)

    def test_references_to_old_addresses_stay(self):
        for phase in COPYING:
            heap = young_heap(phase)
            copy = put(heap, "other", [1])
            old = put(heap, "this", [1], 0, BLACK, 0, copy)
            young = put(heap, "young", [2 * old, 2 * copy, 0])
            rows = [[2 * old, 2 * young, 2 * copy]]
            collect_young(heap, rows)
            moved = copy + 3
            self.assertEqual((rows, payload(heap, moved)), ([[2 * old, 2 * moved, 2 * copy]], [2 * old, 2 * copy, 0]))

    def test_a_block_that_is_reached_twice(self):
        heap = young_heap("marking")
        shared = put(heap, "young", [7])
        one, two = put(heap, "young", [2 * shared]), put(heap, "young", [2 * shared, 2 * shared])
        old = put(heap, "this", [2 * shared, 2 * two], 0, BLACK, 1)
        rows = [[2 * one, 2 * shared], [2 * shared, 2 * one]]
        collect_young(heap, rows)
        first = old + 4
        self.assertEqual(rows, [[2 * first, 2 * first + 6], [2 * first + 6, 2 * first]])
        self.assertEqual(payload(heap, old), [2 * first + 6, 2 * first + 12])
        self.assertEqual([block[2] for block in blocks(heap, first, heap.top)], [1, 1, 2])
        self.assertEqual(heap.grays, [first, first + 3, first + 6])

    def test_cycles(self):
        heap = young_heap()
        one = put(heap, "young", [0, 0])
        two = put(heap, "young", [2 * one])
        heap.words[one + 2:one + 4] = [2 * one, 2 * two]
        rows = [[2 * two]]
        collect_young(heap, rows)
        base = heap.base
        self.assertEqual(rows, [[2 * base]])
        self.assertEqual((payload(heap, base), payload(heap, base + 3)), ([2 * base + 6], [2 * base + 6, 2 * base]))
        self.empty_nursery(heap)

    def test_chains(self):
        heap = Heap(9000, 9000)
        word = 0
        for _ in range(3000):
            word = 2 * put(heap, "young", [word])
        rows = [[word]]
        collect_young(heap, rows)
        self.empty_nursery(heap)
        self.assertEqual((heap.top - heap.base, heap.used(), rows), (9000, 9000, [[2 * heap.base]]))
        addresses = [block[0] for block in blocks(heap, heap.base, heap.top)]
        self.assertEqual([payload(heap, address) for address in addresses], [[2 * address] for address in addresses[1:]] + [[0]])

    def test_a_full_memory(self):
        heap = Heap(12, 12)
        words = [2 * put(heap, "young", [number]) for number in (1, 3, 5, 7)]
        rows = [words]
        collect_young(heap, rows)
        self.assertEqual((rows, heap.top), ([[26, 32, 38, 44]], heap.base + 12))
        self.assertEqual(heap.words[13:25], [64, 0, 1, 64, 0, 3, 64, 0, 5, 64, 0, 7])

    def test_what_is_not_reached_is_gone(self):
        heap = young_heap()
        lost = put(heap, "young", [1])
        kept = put(heap, "young", [2 * lost])
        heap.words[kept + 2] = 1
        put(heap, "young", [2 * kept, 2 * lost])
        collect_young(heap, [[2 * kept]])
        self.empty_nursery(heap)
        self.assertEqual(blocks(heap, heap.base, heap.top), ((heap.base, 0, 1, 0, 0, 0),))

    def test_the_lists_of_the_memory_stay_the_same_lists(self):
        heap = young_heap("marking")
        words = heap.words
        put(heap, "this", [2 * put(heap, "young", [1])], 0, BLACK, 1)
        collect_young(heap, [])
        self.assertIs(heap.words, words)
        self.assertEqual(len(words), 1 + 30 + 120)
        self.assertEqual([type(heap.grays), type(heap.remembered)], [list, list])

    def test_nothing_else_changes(self):
        for phase in PHASES:
            heap = young_heap(phase)
            put(heap, "this", [1, 0], 5, BLACK)
            put(heap, "other", [3], 6)
            heap.cursor, heap.pending = 4, 9
            put(heap, "young", [1])
            before = snapshot(heap)
            collect_young(heap, [])
            words = (0,) * 31 + before[10][31:]
            self.assertEqual(snapshot(heap), (phase, 1, *before[2:10], words))

    def test_example(self):
        heap = Heap(12, 3)
        old, young = put(heap, "this", [0, 2], 1, WHITE, 1), put(heap, "young", [1])
        rows = [[2 * old, 3]]
        collect_young(heap, rows)
        self.assertEqual((young, rows, snapshot(heap)[:10], heap.words[4:11]), (
            1, [[8, 3]], ("idle", 1, 4, 11, 16, 16, 0, (), (), 0), [129, 0, 0, 16, 64, 0, 1]))


class RandomTest(unittest.TestCase):
    """What the rows lead to is the same before and behind."""

    def seen(self, heap, words):
        """The words, and all blocks to which they lead, numbered as they are met."""
        order = []

        def shown(some):
            told = []
            for word in some:
                address = word // 2
                if word % 2 == 0 and word:
                    if address not in order:
                        order.append(address)
                    word = ("block", order.index(address))
                told.append(word)
            return told

        result = [shown(words)]
        for address in order:
            result.append((header(heap, address)[:2], shown(payload(heap, address))))
        return result

    def test_random_memories(self):
        for seed in range(400):
            rng = random.Random(seed)
            heap = Heap(400, 100)
            if rng.randrange(2):
                swapped(heap)
            heap.phase = rng.choice(("idle", "marking"))
            regions = [rng.choice(("young", "young", "this")) for _ in range(rng.randrange(1, 20))]
            addresses = [put(heap, region, [0] * rng.randrange(4), number) for number, region in enumerate(regions)]
            for address in addresses:
                for place in range(header(heap, address)[1]):
                    heap.words[address + 2 + place] = rng.choice((1, -9, 0, 2 * rng.choice(addresses), 2 * rng.choice(addresses)))
                young = [word for word in payload(heap, address) if word % 2 == 0 and 0 < word <= 200]
                if address > 100 and young:
                    heap.words[address + 1] += 4
                    heap.remembered.append(address)
            rng.shuffle(heap.remembered)
            rows = [[rng.choice((0, 3, 2 * rng.choice(addresses))) for _ in range(rng.randrange(4))] for _ in range(3)]
            olds = [2 * address for address in addresses if address > 100]
            before = self.seen(heap, [word for row in rows for word in row] + olds)
            top = heap.top
            collect_young(heap, rows)
            self.assertEqual(self.seen(heap, [word for row in rows for word in row] + olds), before, seed)
            self.assertEqual((heap.young_top, heap.remembered, heap.words[:101]), (1, [], [0] * 101))
            copies = blocks(heap, top, heap.top)
            self.assertEqual(len({block[1] for block in copies}), len(copies))
            wanted = [block[0] for block in copies] if heap.phase == "marking" else []
            self.assertEqual(heap.grays, wanted)
            for block in blocks(heap, heap.base, heap.top):
                self.assertEqual(block[4:], (0, 0))
                for word in payload(heap, block[0]):
                    self.assertTrue(word % 2 == 1 or word == 0 or word > 200)


if __name__ == "__main__":
    unittest.main()
