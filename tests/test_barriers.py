"""Points 49 to 52: resolving, reading and writing."""

import itertools
import unittest

from quietbroom.barriers import read_word, resolve, resolve_word, write_word
from quietbroom.heaps import Heap, snapshot
from tests.memory import BLACK, GRAY, PHASES, WHITE, header, in_phase, payload, put, swapped

COPYING = ("moving", "updating")


def filled(phase, swap=False):
    """A memory in a phase, and its blocks: the spaces are full but for what is young, and the first and the last
    block of this space have forward addresses if the phase lets them."""
    heap = Heap(10, 6)
    if swap:
        swapped(heap)
    copies = [put(heap, "other", [3, 0]), put(heap, "other", [])] if phase in COPYING else [0, 0]
    young = put(heap, "young", [7, 0])
    first = put(heap, "this", [5, 0], 0, BLACK if phase in COPYING else WHITE, 0, copies[0])
    middle = put(heap, "this", [9, 2 * first])
    last = put(heap, "this", [], 1, BLACK if phase in COPYING else WHITE, 0, copies[1])
    return in_phase(heap, phase, heap.top), young, first, middle, last, copies


class ResolveTest(unittest.TestCase):

    def every(self):
        for phase, swap in itertools.product(PHASES, (False, True)):
            yield phase, *filled(phase, swap)

    def test_this_space(self):
        for phase, heap, _, first, middle, last, copies in self.every():
            self.assertEqual((first, last), (heap.base, heap.base + 8))
            self.assertEqual(heap.top, heap.base + heap.capacity)
            if phase in COPYING:
                self.assertEqual((resolve(heap, first), resolve(heap, last)), tuple(copies))
                self.assertEqual((resolve_word(heap, 2 * first), resolve_word(heap, 2 * last)), (2 * copies[0], 2 * copies[1]))
            else:
                self.assertEqual((resolve(heap, first), resolve(heap, last)), (first, last))
                self.assertEqual((resolve_word(heap, 2 * first), resolve_word(heap, 2 * last)), (2 * first, 2 * last))
            self.assertEqual(resolve(heap, middle), middle)

    def test_a_forward_address_counts_in_two_phases_only(self):
        for phase in PHASES:
            heap = Heap(10, 0)
            copy = put(heap, "other", [])
            address = put(heap, "this", [], 0, BLACK, 0, copy)
            heap.phase = phase
            self.assertEqual(resolve(heap, address), copy if phase in COPYING else address)

    def test_outside_of_this_space(self):
        for phase, heap, young, _, _, _, copies in self.every():
            for address in (young, heap.other_base, heap.other_base + 4):
                self.assertEqual(resolve(heap, address), address)
                self.assertEqual(resolve_word(heap, 2 * address), 2 * address)

    def test_beside_both_ends_of_this_space(self):
        # A forward address in a block of the nursery or the other space leads nowhere.
        for swap in (False, True):
            heap = Heap(10, 4)
            if swap:
                swapped(heap)
            young = [put(heap, "young", [], forward=9), put(heap, "young", [], forward=9)]
            other = [put(heap, "other", [], forward=9) for _ in range(5)]
            heap.phase = "moving"
            for address in young + other:
                self.assertEqual(resolve(heap, address), address)

    def test_words_that_are_no_references(self):
        for _, heap, *_ in self.every():
            for word in (0, 1, -1, 3, 2 * heap.base + 1, 2 * heap.base - 1, 4294967295, -4294967295):
                self.assertEqual(resolve_word(heap, word), word)
            self.assertEqual(resolve(heap, 0), 0)

    def test_both_ends_as_addresses(self):
        for phase, swap, capacity in itertools.product(PHASES, (False, True), (0, 1, 2, 10)):
            heap = Heap(capacity, 2)
            if swap:
                swapped(heap)
            heap.phase = phase
            for address in range(len(heap.words)):
                self.assertEqual(resolve(heap, address), address)

    def test_nothing_changes(self):
        for _, heap, young, first, middle, last, _ in self.every():
            before = snapshot(heap)
            for address in (0, young, first, middle, last):
                resolve(heap=heap, address=address)
                resolve_word(heap=heap, word=2 * address)
            self.assertEqual(snapshot(heap), before)


class ReadTest(unittest.TestCase):

    def test_every_region_and_phase(self):
        for phase, swap in itertools.product(PHASES, (False, True)):
            heap, young, first, middle, last, copies = filled(phase, swap)
            before = snapshot(heap)
            self.assertEqual([read_word(heap, young, place) for place in (0, 1)], [7, 0])
            self.assertEqual(read_word(heap, middle, 0), 9)
            if phase in COPYING:
                self.assertEqual(read_word(heap, middle, 1), 2 * copies[0])
                self.assertEqual([read_word(heap, first, place) for place in (0, 1)], [3, 0])
                self.assertEqual([read_word(heap, copies[0], place) for place in (0, 1)], [3, 0])
            else:
                self.assertEqual(read_word(heap, middle, 1), 2 * first)
                self.assertEqual([read_word(heap, first, place) for place in (0, 1)], [5, 0])
            self.assertEqual(snapshot(heap), before)

    def test_what_a_young_block_refers_to_is_resolved(self):
        for phase in COPYING:
            heap = Heap(10, 5)
            copy = put(heap, "other", [])
            old = put(heap, "this", [], 0, BLACK, 0, copy)
            young = put(heap, "young", [2 * old, 2 * copy, 1])
            in_phase(heap, phase)
            self.assertEqual([read_word(heap, young, place) for place in range(3)], [2 * copy, 2 * copy, 1])
            self.assertEqual(payload(heap, young), [2 * old, 2 * copy, 1])

    def test_the_last_item_of_a_long_array(self):
        heap = Heap(1002, 0)
        address = put(heap, "this", list(range(1, 2001, 2)))
        self.assertEqual((read_word(heap, address, 0), read_word(heap=heap, place=999, address=address)), (1, 1999))


class WriteTest(unittest.TestCase):

    def written(self, heap, address, place, word):
        self.assertIsNone(write_word(heap, address, place, word))

    def test_numbers_and_nil(self):
        for phase, swap, word in itertools.product(PHASES, (False, True), (0, 1, -1, 4294967295, -4294967295)):
            heap, young, first, middle, _, copies = filled(phase, swap)
            for address in (young, first):
                held = copies[0] if phase in COPYING and address == first else address
                before = list(snapshot(heap))
                self.written(heap, address, 1, word)
                words = list(before[10])
                words[held + 3] = word
                self.assertEqual(snapshot(heap), (*before[:10], tuple(words)))

    def test_the_address_is_resolved(self):
        for phase in COPYING:
            heap, _, first, _, _, copies = filled(phase)
            self.written(heap, first, 0, 11)
            self.assertEqual((payload(heap, first), payload(heap, copies[0])), ([5, 0], [11, 0]))

    def test_the_word_is_resolved(self):
        for phase in COPYING:
            heap, young, first, _, last, copies = filled(phase)
            self.written(heap, young, 1, 2 * last)
            self.assertEqual(payload(heap, young), [7, 2 * copies[1]])
            self.written(heap, copies[0], 1, 2 * first)
            self.assertEqual(payload(heap, copies[0]), [3, 2 * copies[0]])
            self.assertEqual(heap.remembered, [])

    def test_in_the_phases_idle_and_marking_words_are_stored_as_they_are(self):
        for phase in ("idle", "marking"):
            heap, young, first, middle, last, _ = filled(phase)
            self.written(heap, young, 0, 2 * last)
            self.written(heap, first, 1, 2 * middle)
            self.assertEqual((payload(heap, young), payload(heap, first)), ([2 * last, 0], [5, 2 * middle]))

    def test_by_name(self):
        heap = Heap(10, 0)
        address = put(heap, "this", [1, 1])
        self.assertIsNone(write_word(word=5, place=1, address=address, heap=heap))
        self.assertEqual(payload(heap, address), [1, 5])


class RememberedTest(unittest.TestCase):

    def test_an_old_block_that_gets_a_young_reference(self):
        for phase, colour in itertools.product(PHASES, (WHITE, GRAY, BLACK)):
            heap = Heap(20, 6)
            young = put(heap, "young", [1])
            old = put(heap, "this", [1, 0], 3, colour)
            in_phase(heap, phase)
            grays = list(heap.grays)
            write_word(heap, old, 1, 2 * young)
            self.assertEqual((header(heap, old), heap.remembered, heap.grays), ((3, 2, colour, 1, 0), [old], grays))
            self.assertEqual(header(heap, young), (0, 1, 0, 0, 0))

    def test_in_the_other_space(self):
        for phase in COPYING:
            heap = Heap(20, 6)
            young = put(heap, "young", [1])
            copy = put(heap, "other", [0], 5)
            old = put(heap, "this", [0], 5, BLACK, 0, copy)
            in_phase(heap, phase)
            write_word(heap, old, 0, 2 * young)
            self.assertEqual((header(heap, copy), header(heap, old)), ((5, 1, 0, 1, 0), (5, 1, 2, 0, copy)))
            self.assertEqual((heap.remembered, payload(heap, copy), payload(heap, old)), ([copy], [2 * young], [0]))

    def test_once(self):
        heap = Heap(20, 6)
        one, two = put(heap, "young", []), put(heap, "young", [])
        old = put(heap, "this", [0, 0])
        for place, word in ((0, 2 * one), (1, 2 * two), (0, 2 * two), (1, 2 * one), (1, 0), (1, 2 * one)):
            write_word(heap, old, place, word)
            self.assertEqual((heap.remembered, header(heap, old)[3]), ([old], 1))

    def test_the_mark_stays_when_the_reference_goes(self):
        heap = Heap(20, 6)
        young, old = put(heap, "young", []), put(heap, "this", [0])
        write_word(heap, old, 0, 2 * young)
        write_word(heap, old, 0, 1)
        self.assertEqual((heap.remembered, header(heap, old)[3]), ([old], 1))

    def test_their_order(self):
        heap = Heap(20, 6)
        young = put(heap, "young", [])
        olds = [put(heap, "this", [0]) for _ in range(4)]
        for number in (2, 0, 2, 3, 0, 1):
            write_word(heap, olds[number], 0, 2 * young)
        self.assertEqual(heap.remembered, [olds[2], olds[0], olds[3], olds[1]])

    def test_other_cases(self):
        for phase in PHASES:
            heap = Heap(30, 12)
            young, other = put(heap, "young", [0]), put(heap, "young", [0])
            old, older = put(heap, "this", [0], 0, BLACK), put(heap, "this", [0], 0, BLACK)
            in_phase(heap, phase)
            for address, word in ((young, 2 * other), (young, 2 * young), (young, 2 * old), (old, 2 * older), (old, 2 * old),
                                  (old, 0), (old, 2 * young + 1), (young, 1)):
                write_word(heap, address, 0, word)
                self.assertEqual((heap.remembered, heap.grays), ([], []), (phase, address, word))
            self.assertEqual([header(heap, address)[3] for address in (young, other, old, older)], [0] * 4)

    def test_the_ends_of_the_nursery(self):
        heap = Heap(20, 4)
        first, last = put(heap, "young", []), put(heap, "young", [])
        old = put(heap, "this", [0])
        self.assertEqual((first, last, old), (1, 3, 5))
        write_word(heap, old, 0, 2 * old)
        self.assertEqual(heap.remembered, [])
        write_word(heap, old, 0, 2 * last)
        self.assertEqual(heap.remembered, [old])

    def test_no_nursery(self):
        heap = Heap(20, 0)
        one, two = put(heap, "this", [0]), put(heap, "this", [0])
        write_word(heap, two, 0, 2 * one)
        write_word(heap, one, 0, 2 * two)
        self.assertEqual((one, heap.remembered), (1, []))

    def test_example(self):
        heap = Heap(12, 3)
        old, young = put(heap, "this", [0, 0], 1), put(heap, "young", [1])
        write_word(heap, old, 1, 2 * young)
        self.assertEqual((old, young, heap.used(), header(heap, old), heap.remembered, read_word(heap, old, 1)),
                         (4, 1, 7, (1, 2, 0, 1, 0), [4], 2))


class ShadingTest(unittest.TestCase):

    def test_every_pair_of_colours_and_phase(self):
        for phase, one, two in itertools.product(PHASES, (WHITE, GRAY, BLACK), (WHITE, GRAY, BLACK)):
            heap = Heap(20, 4)
            holder, target = put(heap, "this", [0], 1, one), put(heap, "this", [0, 1], 2, two)
            in_phase(heap, phase)
            grays = list(heap.grays)
            if phase in COPYING and WHITE in (one, two):
                continue
            write_word(heap, holder, 0, 2 * target)
            if (phase, one, two) == ("marking", BLACK, WHITE):
                self.assertEqual((header(heap, target), heap.grays), ((2, 2, GRAY, 0, 0), grays + [target]))
            else:
                self.assertEqual((header(heap, target), heap.grays), ((2, 2, two, 0, 0), grays))
            self.assertEqual((header(heap, holder), heap.remembered), ((1, 1, one, 0, 0), []))

    def test_young_blocks_take_no_part(self):
        heap = Heap(20, 8)
        young, other = put(heap, "young", [0]), put(heap, "young", [0])
        white, black = put(heap, "this", [0]), put(heap, "this", [0], 0, BLACK)
        heap.phase = "marking"
        write_word(heap, young, 0, 2 * white)
        write_word(heap, young, 0, 2 * other)
        self.assertEqual((heap.grays, header(heap, white)[2]), ([], WHITE))
        write_word(heap, black, 0, 2 * young)
        self.assertEqual((heap.grays, header(heap, young), heap.remembered), ([], (0, 1, WHITE, 0, 0), [black]))

    def test_the_remembered_mark_stays(self):
        heap = Heap(20, 4)
        target, holder = put(heap, "this", [0], 5, WHITE, 1), put(heap, "this", [0], 0, BLACK, 1)
        heap.phase = "marking"
        write_word(heap, holder, 0, 2 * target)
        self.assertEqual((header(heap, target), header(heap, holder)), ((5, 1, GRAY, 1, 0), (0, 1, BLACK, 1, 0)))
        self.assertEqual((heap.grays, heap.remembered), ([target], [target, holder]))

    def test_the_order_of_the_grays(self):
        heap = Heap(30, 0)
        whites = [put(heap, "this", [0]) for _ in range(4)]
        holder = put(heap, "this", [0, 0], 0, BLACK)
        heap.phase = "marking"
        for number in (2, 0, 2, 3, 1):
            write_word(heap, holder, number % 2, 2 * whites[number])
        self.assertEqual(heap.grays, [whites[2], whites[0], whites[3], whites[1]])

    def test_a_black_block_that_gets_itself(self):
        heap = Heap(30, 0)
        holder = put(heap, "this", [0], 0, BLACK)
        heap.phase = "marking"
        write_word(heap, holder, 0, 2 * holder)
        self.assertEqual((heap.grays, header(heap, holder)), ([], (0, 1, BLACK, 0, 0)))


if __name__ == "__main__":
    unittest.main()
