"""Point 64: settling on the heap."""

import copy
import itertools
import unittest

from quietbroom.assembler import assemble
from quietbroom.barriers import read_word, resolve, write_word
from quietbroom.cycle import collect, finish
from quietbroom.graphs import held_order, program_settling
from quietbroom.heaps import Heap, blocks, snapshot
from quietbroom.placing import place_block
from quietbroom.settling import heap_settling
from quietbroom.young import collect_young
from tests.memory import PHASES, header, payload, swapped
from tests.objects import PROGRAM, naive_settling, random_standing
from tests.rules import check_memory

SHAPES = "record box next:box value:num\narray row box\nweak look box\npair tie box box\npair tag box num\n"
SMALL = assemble(SHAPES + "function main 0\nback\nend")
BOX, ROW, LOOK, TIE, TAG = range(5)


class Site:
    """A memory in which objects are known by their numbers, as references are in the plain machine."""

    def __init__(self, program, objects, nursery=0, capacity=400, swap=False, steps=0, rows=(), watched=(), parted=()):
        self.program = program
        self.heap = swapped(Heap(capacity, nursery)) if swap else Heap(capacity, nursery)
        # All are held while they are made.
        row = []
        for name, words in objects:
            blank = [word if word % 2 else 0 for word in words]
            row.append(2 * place_block(self.heap, [row], program.shape_number(name), blank))
        for word, (_, words) in zip(list(row), objects):
            for place, part in enumerate(words):
                if part % 2 == 0 and part:
                    write_word(self.heap, word // 2, place, row[part // 2 - 1])
        self.words = row
        self.rows = [self.known(words) for words in rows]
        self.watched, self.parted = self.known(watched), self.known(parted)
        everything = self.rows + [self.watched, self.parted]
        for _ in range(steps):
            collect(self.heap, [row] + everything)

    def known(self, words):
        """Words with numbers, as words of this memory."""
        return [self.words[word // 2 - 1] if word % 2 == 0 and word else word for word in words]

    def settle(self):
        return heap_settling(self.heap, self.program, self.rows, self.watched, self.parted)

    def seen(self):
        """The lists and the held objects with numbers in the order of held_order; the memory is idle."""
        heap = self.heap
        at = {block[0] - 1: (self.program.shapes[block[1]].name, payload(heap, block[0]))
              for block in blocks(heap, heap.base, heap.top)}
        return numbered(self.rows, self.watched, self.parted, at)


def numbered(rows, watched, parted, objects):
    """The lists and the held objects with numbers in the order of held_order."""
    order = held_order(list(rows) + [watched, parted], objects)
    new = {2 * old + 2: 2 * number + 2 for number, old in enumerate(order)}

    def shown(words):
        return tuple(new.get(word, word) if word % 2 == 0 else word for word in words)

    return ([shown(row) for row in rows], shown(watched), shown(parted),
            [(objects[old][0], shown(objects[old][1])) for old in order])


class SettlingTest(unittest.TestCase):

    def settled(self, objects, rows=(), watched=(), parted=(), **more):
        """The site behind a settling, with the payloads of all objects that kept their addresses."""
        site = Site(SMALL, objects, rows=rows, watched=watched, parted=parted, **more)
        self.assertIsNone(site.settle())
        return site

    def payloads(self, site):
        """The payloads with references as numbers; nothing has moved."""
        numbers = {word: 2 * number + 2 for number, word in enumerate(site.words)}
        return [[numbers.get(part, part) if part % 2 == 0 else part for part in payload(site.heap, word // 2)]
                for word in site.words]

    def test_nothing(self):
        for rows in ([], (), [[0, 1]]):
            heap = Heap(10, 4)
            before = snapshot(heap)
            lists = [], []
            self.assertIsNone(heap_settling(heap, SMALL, rows, *lists))
            self.assertEqual((snapshot(heap), lists), (before, ([], [])))

    def test_weak_cells_held_and_not_held(self):
        objects = [("box", (0, 1)), ("look", (2,)), ("look", (2,)), ("box", (0, 5)), ("look", (8,)), ("look", (8,)), ("look", (0,))]
        site = self.settled(objects, rows=[[4, 8, 10], [14]])
        self.assertEqual(self.payloads(site), [[0, 1], [0], [0], [0, 5], [8], [8], [0]])

    def test_pairs_held_and_not_held(self):
        objects = [("box", (0, 1)), ("box", (0, 3)), ("tie", (2, 4)), ("tie", (4, 4)), ("tag", (2, 7)), ("tag", (4, 7)), ("tag", (0, 1))]
        site = self.settled(objects, rows=[[6, 8, 4]])
        self.assertEqual(self.payloads(site), [[0, 1], [0, 3], [0, 0], [4, 4], [0, 1], [4, 7], [0, 1]])
        site = self.settled(objects, rows=[[2]])
        self.assertEqual(self.payloads(site), [[0, 1], [0, 3], [2, 4], [0, 0], [2, 7], [0, 1], [0, 1]])

    def test_chains_of_pairs(self):
        boxes, chain = 40, []
        for number in range(boxes):
            chain.append(("box", (0, 2 * number + 1)))
        for number in range(boxes - 1):
            chain.append(("tie", (2 * number + 2, 2 * number + 4)))
        ties = [2 * (boxes + number) + 2 for number in range(boxes - 1)]
        for order in (ties, list(reversed(ties))):
            site = self.settled(chain, rows=[order, [2]])
            self.assertEqual(self.payloads(site)[boxes:], [list(words) for _, words in chain[boxes:]])
            site = self.settled(chain, rows=[order, [4]])
            self.assertEqual(self.payloads(site)[boxes:], [[0, 0]] + [list(words) for _, words in chain[boxes + 1:]])

    def test_pairs_that_hold_one_another(self):
        objects = [("box", (0, 1)), ("box", (0, 3)), ("tie", (2, 4)), ("tie", (4, 2))]
        site = self.settled(objects, rows=[[6, 8]])
        self.assertEqual(self.payloads(site), [[0, 1], [0, 3], [0, 0], [0, 0]])
        site = self.settled(objects, rows=[[6, 8], [4]])
        self.assertEqual(self.payloads(site), [[0, 1], [0, 3], [2, 4], [4, 2]])

    def test_a_pair_does_not_hold_its_key(self):
        site = self.settled([("box", (0, 1)), ("tie", (2, 2))], rows=[[4]])
        self.assertEqual(self.payloads(site), [[0, 1], [0, 0]])

    def test_watched_and_parted(self):
        objects = [("box", (0, number)) for number in (1, 3, 5, 7, 9)] + [("look", (2,)), ("look", (10,))]
        site = Site(SMALL, objects, rows=[[4, 12], [14]], watched=[6, 4, 2, 6, 8, 6, 4], parted=[10, 10])
        one, two, three, four, five, *_ = site.words
        watched, parted = site.watched, site.parted
        site.settle()
        self.assertEqual((site.watched, site.parted), ([two, two], [five, five, three, one, three, four, three]))
        self.assertIs(site.watched, watched)
        self.assertIs(site.parted, parted)
        self.assertEqual(self.payloads(site)[5:], [[0], [10]])
        before = snapshot(site.heap)
        site.settle()
        self.assertEqual((site.watched, site.parted, snapshot(site.heap)),
                         ([two, two], [five, five, three, one, three, four, three], before))

    def test_what_a_watched_object_holds(self):
        objects = [("box", (4, 1)), ("box", (0, 3)), ("row", (4,)), ("look", (4,)), ("tie", (4, 2))]
        site = self.settled(objects, rows=[[8, 10]], watched=[2, 6, 4])
        self.assertEqual((site.watched, len(site.parted), self.payloads(site)[3:]), ([], 3, [[0], [0, 0]]))

    def test_lists_that_are_longer_behind_it(self):
        site = self.settled([("box", (0, 1))] * 3, watched=[2, 4, 6], parted=[])
        self.assertEqual((site.watched, site.parted), ([], site.words))

    def test_the_rows_are_changed_in_place(self):
        site = Site(SMALL, [("box", (0, 1)), ("look", (2,))], nursery=9, rows=[[4, 1], []], watched=[2])
        rows = list(site.rows)
        site.settle()
        base = site.heap.base
        self.assertEqual((site.rows, site.watched, site.parted), ([[2 * base, 1], []], [], [2 * base + 6]))
        for row, other in zip(rows, site.rows):
            self.assertIs(row, other)
        self.assertEqual((site.heap.young_top, site.heap.words[:10]), (1, [0] * 10))

    def test_rows_may_be_a_tuple(self):
        site = Site(SMALL, [("box", (0, 1)), ("look", (2,))], rows=[[4]], watched=[2])
        site.rows = tuple(site.rows)
        site.settle()
        self.assertEqual((site.rows, site.watched, site.parted), (([site.words[1]],), [], [site.words[0]]))

    def test_by_name(self):
        heap = Heap(5, 0)
        self.assertIsNone(heap_settling(heap=heap, program=SMALL, rows=[], watched=[], parted=[]))

    def test_example(self):
        program = assemble("record box value:num\nweak look box\nfunction main 0\nback\nend")
        heap = Heap(20, 0)
        box, look = place_block(heap, [], 0, (1,)), place_block(heap, [], 1, (0,))
        write_word(heap, look, 0, 2 * box)
        rows, watched, parted = [[2 * look]], [2 * box], []
        told = heap_settling(heap, program, rows, watched, parted)
        self.assertEqual((told, rows, watched, parted, read_word(heap, look, 0), heap.used()), (None, [[8]], [], [2], 0, 6))


class PhasesTest(unittest.TestCase):

    def test_in_each_phase_nothing_moves_behind_the_young(self):
        objects = [("box", (4, 1)), ("box", (0, 3)), ("look", (2,)), ("look", (4,)), ("tie", (2, 4)), ("tag", (2, 9)), ("row", (2, 0))]
        seen = set()
        for steps, nursery, swap in itertools.product(range(26), (0, 4, 30), (False, True)):
            site = Site(SMALL, objects, nursery, 80, swap, steps, [[6, 10], [8, 12, 4]], [2, 4, 2], [4])
            seen.add(site.heap.phase)
            other = copy.deepcopy(site)
            everything = other.rows + [other.watched, other.parted]
            finish(other.heap, everything)
            collect_young(other.heap, everything)
            site.settle()
            heap, before = site.heap, other.heap
            self.assertEqual(snapshot(heap)[:10], snapshot(before)[:10])
            self.assertEqual(blocks(heap, heap.base, heap.top), blocks(before, before.base, before.top))
            self.assertEqual((heap.phase, heap.grays, {block[3] for block in blocks(heap, heap.base, heap.top)}), ("idle", [], {0}))
            self.assertEqual(site.rows, other.rows)
            kept = other.watched[1]
            self.assertEqual((site.watched, site.parted), ([kept], [kept] + [other.watched[0]] * 2))
            for block in blocks(heap, heap.base, heap.top):
                words, name = payload(before, block[0]), SMALL.shapes[block[1]].name
                cleared = {"look": [0], "tie": [0, 0], "tag": [0, 1]}
                if name in cleared and words[0] != kept:
                    words = cleared[name]
                self.assertEqual(payload(heap, block[0]), words)
            check_memory(heap, site.rows + [site.watched, site.parted])
        self.assertEqual(seen, set(PHASES))

    def test_what_only_the_two_lists_hold_is_moved_along(self):
        for steps in range(10):
            site = Site(SMALL, [("box", (0, 3)), ("box", (0, 5))], 0, 20, False, steps, [], [2], [4])
            site.settle()
            self.assertEqual([payload(site.heap, word // 2) for word in site.parted], [[0, 5], [0, 3]])
            self.assertEqual((site.watched, header(site.heap, site.parted[0] // 2)), ([], (BOX, 2, 0, 0, 0)))

    def test_addresses_that_are_not_resolved(self):
        for steps in range(5, 9):
            site = Site(SMALL, [("box", (0, 3)), ("look", (2,))], 0, 20, False, steps, [[4, 2]], [2], [])
            self.assertEqual(site.heap.phase, "moving" if steps < 7 else "updating")
            at = [resolve(site.heap, word // 2) for word in site.words]
            if steps >= 6:
                self.assertEqual(site.watched, [site.words[0]])
                self.assertNotEqual(at[0], site.words[0] // 2)
            site.settle()
            base = site.heap.base
            self.assertEqual((site.rows, site.watched, site.parted), ([[2 * base + 8, 2 * base]], [2 * base], []))
            self.assertEqual(payload(site.heap, base + 4), [2 * base])


class RandomTest(unittest.TestCase):

    def test_the_same_as_on_plain_data(self):
        for seed in range(300):
            rows, watched, parted, objects = random_standing(seed)
            wanted = program_settling(PROGRAM, rows, watched, parted, objects)
            self.assertEqual(wanted, naive_settling(rows, watched, parted, objects))
            wanted = numbered(rows, *wanted)
            nursery, steps = seed % 4 * 20, seed * 7 % 50
            site = Site(PROGRAM, objects, nursery, 200, seed % 2 == 1, steps, rows, watched, parted)
            site.settle()
            self.assertEqual(site.seen(), wanted, seed)
            check_memory(site.heap, site.rows + [site.watched, site.parted])

    def test_all_blocks_of_this_space_are_cleared(self):
        for seed in range(100):
            rows, watched, parted, objects = random_standing(seed)
            site = Site(PROGRAM, objects, 0, 200, False, 0, rows, watched, parted)
            site.settle()
            numbers = {word: 2 * number + 2 for number, word in enumerate(site.words)}
            payloads = [tuple(numbers.get(part, part) if part % 2 == 0 else part for part in payload(site.heap, word // 2))
                        for word in site.words]
            wanted = program_settling(PROGRAM, rows, watched, parted, objects)
            self.assertEqual(payloads, [words for _, words in wanted[2]])
            self.assertEqual([numbers[word] for word in site.watched], list(wanted[0]))
            self.assertEqual([numbers[word] for word in site.parted], list(wanted[1]))


if __name__ == "__main__":
    unittest.main()
