"""Points 53 to 63 and 69: random deeds on a memory, beside a model of its objects that never moves them."""

import random
import unittest

from quietbroom.barriers import read_word, resolve, resolve_word, write_word
from quietbroom.cycle import collect, collect_all, finish
from quietbroom.heaps import Heap, blocks
from quietbroom.placing import place_block
from quietbroom.young import collect_young
from tests.memory import header
from tests.rules import check_memory


class Pair:
    """A memory and its model: model objects are lists [shape number, payload], references are such lists."""

    def __init__(self, rng, capacity, nursery):
        self.rng = rng
        self.heap = Heap(capacity, nursery)
        self.rows = [[0] * 4, [1, 0], []]
        self.model = [[0] * 4, [1, 0], []]

    def places(self):
        return [(row, at) for row, words in enumerate(self.rows) for at in range(len(words))]

    def place(self):
        """A new block, for which room is made if need be, goes to some root."""
        rng, heap = self.rng, self.heap
        length = rng.choice((0, 1, 1, 2, 3, 6))
        if heap.used() + length + 2 > heap.capacity:
            collect_all(heap, self.rows)
        if heap.used() + length + 2 > heap.capacity:
            return
        number = rng.randrange(40)
        blank = [rng.choice((0, 1, -9, 33)) for _ in range(length)]
        address = place_block(heap, self.rows, number, blank)
        row, at = rng.choice(self.places())
        self.rows[row][at] = 2 * address
        self.model[row][at] = [number, list(blank)]

    def some(self):
        """A held object with a payload, as (word, model), or None."""
        found = [(word, thing) for row, things in zip(self.rows, self.model) for word, thing in zip(row, things)
                 if isinstance(thing, list) and thing[1]]
        if not found:
            return None
        word, thing = self.rng.choice(found)
        for _ in range(self.rng.randrange(4)):
            place = self.rng.randrange(len(thing[1]))
            if isinstance(thing[1][place], list) and thing[1][place][1]:
                word, thing = read_word(self.heap, word // 2, place), thing[1][place]
        return word, thing

    def write(self):
        """Some root's word is stored in some payload."""
        row, at = self.rng.choice(self.places())
        target = self.some()
        if target is not None:
            word, thing = target
            place = self.rng.randrange(len(thing[1]))
            write_word(self.heap, word // 2, place, self.rows[row][at])
            thing[1][place] = self.model[row][at]

    def fetch(self):
        """Some payload word goes to a root."""
        target = self.some()
        if target is not None:
            word, thing = target
            place = self.rng.randrange(len(thing[1]))
            row, at = self.rng.choice(self.places())
            self.rows[row][at] = read_word(self.heap, word // 2, place)
            self.model[row][at] = thing[1][place]

    def drop(self):
        """Some root is lost."""
        row, at = self.rng.choice(self.places())
        self.rows[row][at] = self.model[row][at] = self.rng.choice((0, 1))

    def held(self):
        """The held objects of the model, and the blocks that they are, from the roots on."""
        found, queue = {}, []
        for row, things in zip(self.rows, self.model):
            queue += zip(row, things)
        for word, thing in queue:
            word = resolve_word(self.heap, word)
            if not isinstance(thing, list):
                assert word == thing, "a word that is no reference"
            elif id(thing) in found:
                assert found[id(thing)] == word, "two blocks for one object"
            else:
                found[id(thing)] = word
                assert header(self.heap, word // 2)[:2] == (thing[0], len(thing[1])), "another object"
                queue += [(read_word(self.heap, word // 2, place), part) for place, part in enumerate(thing[1])]
        assert len(set(found.values())) == len(found), "one block for two objects"
        return found


def traced(pair, before, deed):
    """Checks that each block that was held is still there, and where it went if the step moved it."""
    after = pair.held()
    assert set(after) == set(before)
    for key, word in before.items():
        now = after[key]
        old = word // 2 > pair.heap.nursery
        if deed == "move":
            assert now == word or resolve(pair.heap, word // 2) == now // 2
        elif old:
            assert now == word, "a block moved in another step"


class RandomTest(unittest.TestCase):

    def test_random_deeds(self):
        told = {}
        for seed in range(150):
            rng = random.Random(seed)
            capacity = rng.choice((8, 20, 50, 120))
            pair = Pair(rng, capacity, rng.choice((0, 3, 5, capacity // 2, capacity)))
            for _ in range(120):
                deed = rng.choice(("place", "place", "place", "write", "write", "write", "fetch", "drop") + ("collect",) * 6
                                  + ("young", "finish", "all")[:rng.randrange(4)])
                before = pair.held()
                if deed == "collect":
                    step = collect(pair.heap, pair.rows)
                    told[step] = told.get(step, 0) + 1
                    traced(pair, before, step)
                elif deed == "young":
                    self.assertIsNone(collect_young(pair.heap, pair.rows))
                    self.assertEqual(pair.heap.young_top, 1)
                    traced(pair, before, deed)
                elif deed == "finish":
                    idle = pair.heap.phase == "idle"
                    self.assertEqual(finish(pair.heap, pair.rows) == 0, idle)
                    self.assertEqual(set(before), set(pair.held()))
                elif deed == "all":
                    collect_all(pair.heap, pair.rows)
                    found = {2 * block[0] for block in blocks(pair.heap, pair.heap.base, pair.heap.top)}
                    self.assertEqual(found, set(pair.held().values()))
                    self.assertEqual(set(before), set(pair.held()))
                else:
                    getattr(pair, deed)()
                check_memory(pair.heap, pair.rows)
                pair.held()
        self.assertEqual(set(told), {"begin", "mark", "rescan", "marked", "move", "skip", "moved", "update", "done"})
        self.assertGreater(min(told.values()), 50)


if __name__ == "__main__":
    unittest.main()
