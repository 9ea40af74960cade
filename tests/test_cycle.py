"""Points 56 to 63, and 54 and 55 with cycles under way: each step of a cycle of the collector by itself."""

import copy
import itertools
import unittest

from quietbroom.barriers import read_word, resolve, write_word
from quietbroom.cycle import collect, collect_all, finish
from quietbroom.heaps import Heap, blocks, snapshot
from quietbroom.placing import place_block
from quietbroom.young import collect_young
from tests.memory import BLACK, GRAY, WHITE, header, payload, swapped
from tests.rules import check_memory


def collects(heap, rows, count):
    """What so many steps did."""
    return [collect(heap, rows) for _ in range(count)]


def placed(heap, rows, *payloads):
    """The addresses of new blocks whose references are written behind that; shapes 0, 1, 2 .."""
    held = [[]]
    for number, words in enumerate(payloads):
        address = place_block(heap, held + rows, number, [0 if word % 2 == 0 else word for word in words])
        held[0].append(2 * address)
    addresses = [word // 2 for word in held[0]]
    for address, words in zip(addresses, payloads):
        for place, word in enumerate(words):
            if word % 2 == 0 and word:
                write_word(heap, address, place, 2 * addresses[word // 2 - 1])
    return addresses


def until(heap, rows, phase):
    """Does steps until the phase is this one."""
    while heap.phase != phase:
        collect(heap, rows)


def unchanged(heap, before, *names):
    """Whether all attributes but the named ones are as they were."""
    return all(getattr(heap, name) == worth for name, worth in before.items() if name not in names)


def taken(heap):
    """All attributes, copied."""
    return copy.deepcopy(vars(heap))


class EmptyTest(unittest.TestCase):

    def test_no_blocks_and_no_rows(self):
        for capacity, nursery in ((0, 0), (5, 0), (5, 5)):
            for rows in ([], (), [[]], [[0, 1, -7], [3]]):
                heap = Heap(capacity, nursery)
                first, second = nursery + 1, nursery + 1 + capacity
                shown, told = [], []
                for _ in range(4):
                    told.append(collect(heap, rows))
                    shown.append(snapshot(heap)[:10])
                self.assertEqual(told, ["begin", "marked", "moved", "done"])
                self.assertEqual(shown, [
                    ("marking", 1, first, first, second, second, 0, (), (), 0),
                    ("moving", 1, first, first, second, second, first, (), (), 0),
                    ("updating", 1, first, first, second, second, second, (), (), 0),
                    ("idle", 1, second, second, first, first, 0, (), (), 0),
                ])
                self.assertEqual(heap.words, [0] * (1 + nursery + 2 * capacity))
                self.assertEqual(rows, type(rows)([0, 1, -7] if row else [] for row in rows[:1]) + rows[1:])

    def test_by_name(self):
        heap = Heap(5, 0)
        self.assertEqual((collect(heap=heap, rows=()), finish(heap=heap, rows=[]), collect_all(heap=heap, rows=[])),
                         ("begin", 3, 4))


class BeginTest(unittest.TestCase):

    def test_rows_shade_in_their_order(self):
        heap = Heap(60, 0)
        one, two, three, four, five = placed(heap, [], [1], [10], [1], [1], [1])
        rows = [[0, 2 * three, 7], [], [2 * one, 2 * three, 2 * two], (2 * four, 2 * one)]
        before = taken(heap)
        self.assertEqual(collect(heap, rows), "begin")
        self.assertEqual((heap.phase, heap.grays), ("marking", [three, one, two, four]))
        self.assertTrue(unchanged(heap, before, "phase", "grays", "words"))
        self.assertEqual([header(heap, at)[2] for at in (one, two, three, four, five)], [GRAY] * 4 + [WHITE])
        self.assertEqual(header(heap, two), (1, 1, GRAY, 0, 0))
        self.assertEqual(rows, [[0, 2 * three, 7], [], [2 * one, 2 * three, 2 * two], (2 * four, 2 * one)])

    def test_the_young_blocks_are_collected_first_and_white(self):
        heap = Heap(60, 20)
        old = place_block(heap, [], 9, [0] * 19)
        one, two, three = placed(heap, [], [4], [1], [1])
        write_word(heap, old, 0, 2 * three)
        rows = [[3, 2 * one]]
        self.assertEqual(collect(heap, rows), "begin")
        top = old + 21
        self.assertEqual(rows, [[3, 2 * top]])
        self.assertEqual(blocks(heap, heap.base, heap.top), (
            (old, 9, 19, WHITE, 0, 0), (top, 0, 1, GRAY, 0, 0), (top + 3, 2, 1, WHITE, 0, 0), (top + 6, 1, 1, WHITE, 0, 0)))
        self.assertEqual((heap.grays, heap.remembered, heap.young_top, heap.words[:21]), ([top], [], 1, [0] * 21))

    def test_blocks_behind_the_rows_are_not_shaded(self):
        heap = Heap(60, 0)
        one, two = placed(heap, [], [4], [1])
        collect(heap, [[2 * one]])
        self.assertEqual((header(heap, one)[2], header(heap, two)[2], heap.grays), (GRAY, WHITE, [one]))


class MarkTest(unittest.TestCase):

    def marking(self, *payloads, held=(0,), nursery=0):
        """A memory at the beginning of the marking, its blocks and the rows."""
        heap = Heap(90, nursery)
        addresses = placed(heap, [], *payloads)
        rows = [[2 * addresses[number] for number in held]]
        collect(heap, rows)
        return heap, addresses, rows

    def test_it_takes_the_first(self):
        heap, (one, two, three, four), rows = self.marking([8], [6, 2], [1], [1], held=(1, 0))
        before = taken(heap)
        self.assertEqual(heap.grays, [two, one])
        self.assertEqual(collect(heap, rows), "mark")
        self.assertEqual((heap.grays, header(heap, two), header(heap, three)), ([one, three], (1, 2, BLACK, 0, 0), (2, 1, GRAY, 0, 0)))
        self.assertTrue(unchanged(heap, before, "grays", "words"))
        self.assertEqual(collect(heap, rows), "mark")
        self.assertEqual((heap.grays, header(heap, one)[2]), ([three, four], BLACK))
        self.assertEqual(collects(heap, rows, 3), ["mark", "mark", "marked"])

    def test_the_payload_in_its_order(self):
        heap, (one, two, three, four), rows = self.marking([1, 6, 0, 4, 6, 8, 2, -3], [1], [1], [1])
        collect(heap, rows)
        self.assertEqual(heap.grays, [three, two, four])

    def test_a_block_that_refers_to_itself(self):
        heap, (one,), rows = self.marking([2, 2])
        self.assertEqual(collects(heap, rows, 2), ["mark", "marked"])
        self.assertEqual(header(heap, one), (0, 2, BLACK, 0, 0))

    def test_blocks_that_are_not_white(self):
        heap, (one, two, three), rows = self.marking([4, 6], [2, 6], [2, 4], held=(0, 1))
        collects(heap, rows, 2)
        self.assertEqual(heap.grays, [three])
        self.assertEqual(collects(heap, rows, 2), ["mark", "marked"])

    def test_young_blocks_are_not_shaded(self):
        heap, (one,), rows = self.marking([0, 1, 1], nursery=4)
        young = place_block(heap, rows, 5, [1])
        write_word(heap, one, 0, 2 * young)
        self.assertEqual(collect(heap, rows), "mark")
        self.assertEqual((heap.grays, header(heap, young), header(heap, one)), ([], (5, 1, WHITE, 0, 0), (0, 3, BLACK, 1, 0)))
        self.assertEqual((heap.remembered, rows), ([one], [[2 * one]]))

    def test_the_remembered_mark_of_what_is_shaded_stays(self):
        heap, (one, two), rows = self.marking([4, 1, 1], [0, 1, 1], nursery=4)
        write_word(heap, two, 0, 2 * place_block(heap, rows, 5, [1]))
        collect(heap, rows)
        self.assertEqual((header(heap, one), header(heap, two)), ((0, 3, BLACK, 0, 0), (1, 3, GRAY, 1, 0)))
        self.assertEqual((heap.grays, heap.remembered), ([two], [two]))

    def test_what_is_stored_in_a_black_block_is_shaded(self):
        heap = Heap(10, 0)
        one, two = place_block(heap, [], 0, [0]), place_block(heap, [], 0, [0])
        rows = [[2 * one]]
        done = collects(heap, rows, 2)
        write_word(heap, one, 0, 2 * two)
        place_block(heap, rows, 2, [])
        self.assertEqual((done, blocks(heap, 1, heap.top), heap.grays), (
            ["begin", "mark"], ((1, 0, 1, 2, 0, 0), (4, 0, 1, 1, 0, 0), (7, 2, 0, 2, 0, 0)), [4]))
        self.assertEqual(collects(heap, rows, 2), ["mark", "marked"])
        self.assertEqual(heap.pending, 8)

    def test_what_is_promoted_while_marking_is_gray(self):
        heap, (one, two), rows = self.marking([1, 1, 1], [1, 1, 1], nursery=4)
        rows[0].append(2 * place_block(heap, rows, 5, [1]))
        collect_young(heap, rows)
        young = heap.top - 3
        self.assertEqual((heap.grays, header(heap, young)), ([one, young], (5, 1, GRAY, 0, 0)))
        self.assertEqual(collects(heap, rows, 3), ["mark", "mark", "marked"])

    def test_a_row_that_loses_a_reference(self):
        heap, (one, two), rows = self.marking([4], [1])
        rows[0][0] = 0
        self.assertEqual(collects(heap, rows, 3), ["mark", "mark", "marked"])


class EndOfMarkingTest(unittest.TestCase):

    def marked(self, *payloads, nursery=0, rows=None):
        """A memory behind the marking of what the rows held, with no gray block left."""
        heap = Heap(90, nursery)
        addresses = placed(heap, [], *payloads)
        rows = [[2 * addresses[number] for number in row] for row in rows]
        collect(heap, rows)
        while heap.grays:
            collect(heap, rows)
        return heap, addresses, rows

    def test_rescan_for_the_rows(self):
        heap, (one, two, three, four), rows = self.marked([1], [1], [2], [1], rows=[[0]])
        rows += [[2 * three, 1, 2 * one], [2 * two, 2 * three]]
        before = taken(heap)
        self.assertEqual(collect(heap, rows), "rescan")
        self.assertEqual(heap.grays, [three, two])
        self.assertTrue(unchanged(heap, before, "grays", "words"))
        self.assertEqual([header(heap, at)[2] for at in (one, two, three, four)], [BLACK, GRAY, GRAY, WHITE])
        self.assertEqual(collects(heap, rows, 3), ["mark", "mark", "marked"])

    def test_rescan_for_what_is_promoted(self):
        heap, (one, two), rows = self.marked([1, 1, 1], [1, 1, 1], nursery=4, rows=[[0]])
        young = place_block(heap, rows, 5, [0, 1])
        write_word(heap, young, 0, 2 * two)
        rows[0].append(2 * young)
        self.assertEqual(collect(heap, rows), "rescan")
        self.assertEqual((heap.grays, heap.young_top, rows), ([heap.top - 4], 1, [[2 * one, 2 * (heap.top - 4)]]))
        self.assertEqual((header(heap, two)[2], heap.phase, heap.cursor), (WHITE, "marking", 0))
        self.assertEqual(collects(heap, rows, 3), ["mark", "mark", "marked"])
        self.assertEqual(heap.pending, 14)

    def test_promoted_ahead_of_the_rows(self):
        heap, (one, two), rows = self.marked([1, 1, 1], [1, 1, 1], nursery=4, rows=[[0]])
        rows[0] += [2 * two, 2 * place_block(heap, rows, 5, [1])]
        self.assertEqual(collect(heap, rows), "rescan")
        self.assertEqual(heap.grays, [heap.top - 3, two])

    def test_rescan_for_a_remembered_block(self):
        heap, (one,), rows = self.marked([0, 1, 1], nursery=4, rows=[[0]])
        write_word(heap, one, 0, 2 * place_block(heap, rows, 5, [1]))
        self.assertEqual(collect(heap, rows), "rescan")
        self.assertEqual((heap.remembered, header(heap, one), heap.grays), ([], (0, 3, BLACK, 0, 0), [one + 5]))
        self.assertEqual(collects(heap, rows, 2), ["mark", "marked"])

    def test_marked(self):
        heap, (one, two, three), rows = self.marked([1, 1], [1], [2, 1, 1], rows=[[2]])
        before = taken(heap)
        self.assertEqual(collect(heap, rows), "marked")
        self.assertEqual((heap.phase, heap.cursor, heap.pending), ("moving", heap.base, 9))
        self.assertTrue(unchanged(heap, before, "phase", "cursor", "pending"))
        self.assertEqual(heap.used(), 9)

    def test_young_blocks_that_nobody_holds(self):
        heap, (one,), rows = self.marked([1, 1, 1], nursery=4, rows=[[0]])
        place_block(heap, rows, 5, [1])
        self.assertEqual(collect(heap, rows), "marked")
        self.assertEqual((heap.young_top, heap.words[:5], heap.used()), (1, [0] * 5, 5))

    def test_a_block_placed_while_marking_is_moved(self):
        heap, (one,), rows = self.marked([1], rows=[[0]])
        place_block(heap, rows, 5, [1])
        self.assertEqual(collects(heap, rows, 4), ["marked", "move", "move", "moved"])


class MovingTest(unittest.TestCase):

    def moving(self, *payloads, held=(0,), nursery=0, swap=False):
        """A memory at the beginning of the moving, its blocks and the rows."""
        heap = Heap(90, nursery)
        if swap:
            swapped(heap)
        addresses = placed(heap, [], *payloads)
        rows = [[2 * addresses[number] for number in held]]
        until(heap, rows, "moving")
        return heap, addresses, rows

    def test_move_and_skip(self):
        for swap in (False, True):
            heap, (one, two, three), rows = self.moving([6, 1], [1], [2, 7, 1], held=(0,), swap=swap)
            other, before = heap.other_base, taken(heap)
            self.assertEqual((collect(heap, rows), heap.cursor, heap.pending, heap.other_top), ("move", two, 5, other + 4))
            self.assertEqual((header(heap, one), payload(heap, one)), ((0, 2, BLACK, 0, other), [2 * three, 1]))
            self.assertEqual((header(heap, other), payload(heap, other)), ((0, 2, WHITE, 0, 0), [2 * three, 1]))
            self.assertTrue(unchanged(heap, before, "cursor", "pending", "other_top", "words"))
            self.assertEqual(heap.used(), 9)
            before = taken(heap)
            self.assertEqual((collect(heap, rows), heap.cursor), ("skip", three))
            self.assertTrue(unchanged(heap, before, "cursor"))
            self.assertEqual((collect(heap, rows), heap.cursor, heap.pending), ("move", heap.top, 0))
            self.assertEqual((header(heap, three), payload(heap, other + 4)), ((2, 3, BLACK, 0, other + 4), [2 * one, 7, 1]))
            before = taken(heap)
            self.assertEqual((collect(heap, rows), heap.phase, heap.cursor), ("moved", "updating", other))
            self.assertTrue(unchanged(heap, before, "phase", "cursor"))
            self.assertEqual((rows, heap.used()), ([[2 * one]], 9))

    def test_nothing_is_held(self):
        heap, addresses, rows = self.moving([1], [1], held=())
        self.assertEqual((heap.pending, heap.used()), (0, 0))
        self.assertEqual(collects(heap, rows, 4), ["skip", "skip", "moved", "done"])

    def test_the_remembered_mark_goes_to_the_copy(self):
        heap, (one, two), rows = self.moving([0, 1, 1], [0, 1, 1], held=(0, 1), nursery=4)
        young = place_block(heap, rows, 5, [1])
        write_word(heap, one, 0, 2 * young)
        self.assertEqual((header(heap, one), heap.remembered), ((0, 3, BLACK, 1, 0), [one]))
        collects(heap, rows, 2)
        copies = heap.other_base, heap.other_base + 5
        self.assertEqual([header(heap, at) for at in (one, two)], [(0, 3, BLACK, 0, copies[0]), (1, 3, BLACK, 0, copies[1])])
        self.assertEqual([header(heap, at) for at in copies], [(0, 3, WHITE, 1, 0), (1, 3, WHITE, 0, 0)])
        self.assertEqual((heap.remembered, payload(heap, copies[0])), ([one], [2 * young, 1, 1]))
        write_word(heap, two, 0, 2 * young)
        self.assertEqual((heap.remembered, header(heap, copies[1])), ([one, copies[1]], (1, 3, WHITE, 1, 0)))
        collect_young(heap, rows)
        self.assertEqual([header(heap, at)[3] for at in copies], [0, 0])
        self.assertEqual([read_word(heap, at, 0) for at in (one, two)], [2 * copies[1] + 10] * 2)

    def test_what_is_placed_or_promoted_goes_to_the_other_space(self):
        heap, (one, two), rows = self.moving([1, 1, 1], [1, 1, 1], held=(1,), nursery=4)
        collect(heap, rows)
        young = place_block(heap, rows, 5, [0])
        write_word(heap, young, 0, 2 * two)
        rows[0].append(2 * young)
        large = place_block(heap, rows, 6, [1, 1, 1])
        self.assertEqual((large, header(heap, large)), (heap.other_base, (6, 3, WHITE, 0, 0)))
        collect_young(heap, rows)
        copy_of_young = large + 5
        self.assertEqual((rows, header(heap, copy_of_young)), ([[2 * two, 2 * copy_of_young]], (5, 1, WHITE, 0, 0)))
        self.assertEqual((heap.grays, payload(heap, copy_of_young), heap.pending), ([], [2 * two], 5))
        self.assertEqual(collects(heap, rows, 2), ["move", "moved"])
        self.assertEqual(resolve(heap, two), copy_of_young + 3)
        self.assertEqual(heap.used(), 13)
        self.assertEqual(collects(heap, rows, 4), ["update", "update", "update", "done"])
        self.assertEqual((rows, payload(heap, copy_of_young)), ([[2 * copy_of_young + 6, 2 * copy_of_young]], [2 * copy_of_young + 6]))

    def test_reading_and_writing_blocks_that_were_moved(self):
        heap, (one, two), rows = self.moving([4, 1], [0, 1], held=(0,))
        collect(heap, rows)
        write_word(heap, one, 1, 77)
        write_word(heap, two, 0, 2 * one)
        copy_of_one = heap.other_base
        self.assertEqual((read_word(heap, one, 1), payload(heap, copy_of_one), payload(heap, one)), (77, [2 * two, 77], [2 * two, 1]))
        self.assertEqual((payload(heap, two), read_word(heap, one, 0)), ([2 * copy_of_one, 1], 2 * two))
        collect(heap, rows)
        self.assertEqual(read_word(heap, one, 0), 2 * copy_of_one + 8)

    def test_example(self):
        heap = Heap(10, 6)
        address = place_block(heap, [], 0, (1, 0))
        rows = [[2 * address]]
        done = collects(heap, rows, 4)
        self.assertEqual((address, done, rows, heap.used(), snapshot(heap)[:10], heap.words[7:11], heap.words[17:21]), (
            1, ["begin", "mark", "marked", "move"], [[14]], 4, ("moving", 1, 7, 11, 17, 21, 11, (), (), 0), [128, 138, 1, 0],
            [128, 0, 1, 0]))


class UpdatingTest(unittest.TestCase):

    def updating(self, *payloads, held=(0,), nursery=0):
        """A memory at the beginning of the updating, its blocks and the rows."""
        heap = Heap(90, nursery)
        addresses = placed(heap, [], *payloads)
        rows = [[2 * addresses[number] for number in held]]
        until(heap, rows, "updating")
        return heap, addresses, rows

    def test_update(self):
        heap, (one, two, three), rows = self.updating([4, 0, 7, 6, 2], [2], [1], held=(0,))
        first, second, third = [resolve(heap, at) for at in (one, two, three)]
        self.assertEqual(payload(heap, first), [2 * two, 0, 7, 2 * three, 2 * one])
        before = taken(heap)
        self.assertEqual((collect(heap, rows), heap.cursor), ("update", second))
        self.assertEqual(payload(heap, first), [2 * second, 0, 7, 2 * third, 2 * first])
        self.assertEqual((header(heap, first), payload(heap, second)), ((0, 5, WHITE, 0, 0), [2 * one]))
        self.assertTrue(unchanged(heap, before, "cursor", "words"))
        self.assertEqual(collects(heap, rows, 3), ["update", "update", "done"])

    def test_words_that_are_resolved_already_stay(self):
        heap, (one, two), rows = self.updating([4, 1], [1])
        write_word(heap, one, 0, 2 * two)
        words = list(heap.words)
        collect(heap, rows)
        self.assertEqual(heap.words, words)

    def test_what_is_placed_or_promoted_is_updated_too(self):
        heap, (one,), rows = self.updating([1, 1, 1], nursery=4)
        young = place_block(heap, rows, 5, [0])
        # Its reference is not resolved: it was stored ahead of the moving.
        heap.words[young + 2] = 2 * one
        rows[0].append(2 * young)
        collect_young(heap, rows)
        moved = rows[0][1] // 2
        self.assertEqual((moved, payload(heap, moved), header(heap, moved)), (heap.other_top - 3, [2 * one], (5, 1, WHITE, 0, 0)))
        place_block(heap, rows, 6, [1, 1, 1])
        self.assertEqual(collects(heap, rows, 4), ["update", "update", "update", "done"])
        self.assertEqual(payload(heap, moved), [2 * heap.base])

    def test_young_references_stay(self):
        heap, (one,), rows = self.updating([0, 1, 1], nursery=4)
        young = place_block(heap, rows, 5, [1])
        write_word(heap, one, 0, 2 * young)
        collect(heap, rows)
        self.assertEqual((payload(heap, heap.other_base), header(heap, heap.other_base)), ([2 * young, 1, 1], (0, 3, WHITE, 1, 0)))

    def test_done(self):
        heap, (one, two, three), rows = self.updating([4] + [1] * 5, [1] * 6, [1] * 6, held=(0, 1), nursery=6)
        first, second = resolve(heap, one), resolve(heap, two)
        young, other = place_block(heap, rows, 5, [0]), place_block(heap, rows, 5, [0])
        heap.words[young + 2], heap.words[other + 2] = 2 * two, 2 * young
        write_word(heap, second, 1, 2 * young)
        heap.remembered = [two]
        row = rows[0]
        row += [0, 5, 2 * young, 2 * second, 2 * other]
        collects(heap, rows, 2)
        base, top, ends = heap.base, heap.top, heap.other_top
        self.assertEqual(heap.cursor, ends)
        self.assertTrue(any(heap.words[base:top]))
        self.assertEqual(collect(heap, rows), "done")
        self.assertEqual(rows, [[2 * first, 2 * second, 0, 5, 2 * young, 2 * second, 2 * other]])
        self.assertIs(rows[0], row)
        self.assertEqual((payload(heap, young), payload(heap, other)), ([2 * second], [2 * young]))
        self.assertEqual(snapshot(heap)[:10], ("idle", 7, first, ends, base, base, 0, (), (second,), 0))
        self.assertEqual(heap.words[base:base + 90], [0] * 90)
        self.assertEqual((header(heap, second), payload(heap, second)), ((1, 6, WHITE, 1, 0), [1, 2 * young, 1, 1, 1, 1]))
        check_memory(heap, rows)

    def test_rows_are_lists_and_the_same_ones_behind_it(self):
        heap, (one,), _ = self.updating([1])
        rows = ([2 * one], [], [2 * one, 1])
        kept = list(rows)
        until(heap, rows, "idle")
        self.assertEqual(rows, ([2 * heap.base], [], [2 * heap.base, 1]))
        for row, other in zip(rows, kept):
            self.assertIs(row, other)

    def test_no_step_but_done_and_the_young_changes_the_rows(self):
        heap, (one, two), rows = self.updating([4], [1], held=(1, 0))
        while heap.phase != "idle":
            self.assertEqual(rows, [[2 * two, 2 * one]])
            collect(heap, rows)
        self.assertEqual(rows, [[2 * heap.base + 6, 2 * heap.base]])


class FinishTest(unittest.TestCase):

    def test_from_each_step(self):
        payloads = ([4, 1], [1], [2], [8])
        heap = Heap(90, 0)
        addresses = placed(heap, [], *payloads)
        rows = [[2 * addresses[0]]]
        told = []
        states = [(copy.deepcopy(heap), copy.deepcopy(rows))]
        while not told or heap.phase != "idle":
            told.append(collect(heap, rows))
            states.append((copy.deepcopy(heap), copy.deepcopy(rows)))
        self.assertEqual(told, ["begin", "mark", "mark", "marked", "move", "move", "skip", "skip", "moved", "update", "update", "done"])
        for number, (state, its_rows) in enumerate(states):
            other, other_rows = copy.deepcopy(state), copy.deepcopy(its_rows)
            left = len(told) - number if number else 0
            self.assertEqual(finish(state, its_rows), left)
            if number:
                self.assertEqual((snapshot(state), its_rows), (snapshot(heap), rows))
            # A whole cycle behind it: four steps, and one or two for each of the blocks.
            again = len(told) if not number else 4 + 3 * 2
            self.assertEqual(collect_all(other, other_rows), left + again)
            self.assertEqual((other.phase, other.used(), len(blocks(other, other.base, other.top))), ("idle", 7, 2))

    def test_idle(self):
        heap = Heap(9, 3)
        place_block(heap, [], 0, [1])
        before = snapshot(heap)
        self.assertEqual((finish(heap, []), snapshot(heap)), (0, before))

    def test_only_held_objects_are_left(self):
        for nursery, swap, early in itertools.product((0, 5, 40), (False, True), range(14)):
            heap = Heap(40, nursery)
            if swap:
                swapped(heap)
            one, two, three, four = placed(heap, [], [4, 0], [2, 1], [6, 2], [1])
            rows = [[2 * two], [2 * four]]
            collects(heap, rows, early)
            rows[1][0] = 5
            collect_all(heap, rows)
            check_memory(heap, rows)
            self.assertEqual((heap.phase, heap.used(), heap.young_top, heap.remembered), ("idle", 8, 1, []))
            found = blocks(heap, heap.base, heap.top)
            self.assertEqual(sorted(block[1:] for block in found), [(0, 2, 0, 0, 0), (1, 2, 0, 0, 0)])

    def test_steps_of_collect_all(self):
        for held, others in itertools.product((0, 1, 4), (0, 1, 3)):
            heap = Heap(90, 0)
            addresses = placed(heap, [], *[[1]] * (held + others))
            rows = [[2 * at for at in addresses[:held]]]
            self.assertEqual(collect_all(heap, rows), 4 + 3 * held + others)

    def test_a_rescan_counts(self):
        heap = Heap(90, 0)
        one, two = placed(heap, [], [1], [1])
        rows = [[2 * one]]
        collects(heap, rows, 2)
        rows[0][0] = 2 * two
        self.assertEqual(finish(heap, rows), 9)

    def test_examples(self):
        heap = Heap(12, 0)
        first, second = place_block(heap, [], 3, (1,)), place_block(heap, [], 4, (3, 0))
        rows = [[0, 2 * second]]
        steps = collect_all(heap, rows)
        self.assertEqual((first, second, steps, rows, heap.used(), snapshot(heap)[:10], heap.words[13:17]), (
            1, 4, 8, [[0, 26]], 4, ("idle", 1, 13, 17, 1, 1, 0, (), (), 0), [132, 0, 3, 0]))


class PromotionTest(unittest.TestCase):
    """Points 54 and 55 at each step of a cycle."""

    def test_at_each_step(self):
        for steps in range(11):
            heap = Heap(60, 12)
            one, two, three = placed(heap, [], [4] + [1] * 10, [0] + [1] * 10, [1] * 11)
            rows = [[2 * one]]
            collects(heap, rows, steps)
            young = place_block(heap, rows, 8, [0, 0])
            last = place_block(heap, rows, 9, [0])
            write_word(heap, young, 1, 2 * last)
            write_word(heap, last, 0, 2 * one)
            write_word(heap, two, 0, 2 * young)
            grays, ends = list(heap.grays), (heap.top, heap.other_top)
            copying = heap.phase in ("moving", "updating")
            self.assertEqual([resolve(heap, at) for at in heap.remembered], [resolve(heap, two)])
            collect_young(heap, rows)
            check_memory(heap, rows)
            at = ends[1] if copying else ends[0]
            self.assertEqual((heap.top, heap.other_top), (ends[0], at + 7) if copying else (at + 7, ends[1]))
            colour = GRAY if heap.phase == "marking" else WHITE
            self.assertEqual((header(heap, at), header(heap, at + 4)), ((8, 2, colour, 0, 0), (9, 1, colour, 0, 0)))
            self.assertEqual(heap.grays, grays + [at, at + 4] if heap.phase == "marking" else [])
            self.assertEqual((read_word(heap, two, 0), header(heap, resolve(heap, two))[3]), (2 * at, 0))
            self.assertEqual((read_word(heap, at, 1), read_word(heap, at + 4, 0)), (2 * at + 8, 2 * resolve(heap, one)))
            finish(heap, rows)
            self.assertEqual(len(blocks(heap, heap.base, heap.top)), 4 if steps else 5)


if __name__ == "__main__":
    unittest.main()
