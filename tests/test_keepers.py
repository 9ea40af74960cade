"""Points 78 and 79: which objects keep others."""

import random
import unittest

from quietbroom.errors import NoObject, QuietError
from quietbroom.keepers import keepers, kept_words, two_ways
from quietbroom.pictures import Picture, picture_of
from quietbroom.ways import follow
from tests.graphs_of import chain, expected_keepers, kept_by, random_picture

NODES = Picture([2, 4], [], [], [], [("node", [6]), ("node", [6]), ("node", [8]), ("node", [0])])


def graph(rows, *payloads):
    """A picture of the objects with these payloads, told by the numbers of objects from 0 on."""
    objects = [("node", [2 * number + 2 for number in payload]) for payload in payloads]
    return Picture([2 * number + 2 for number in rows], [], [], [], objects)


def objects_along(picture, number, places):
    """The numbers of the objects from this one on along payload places."""
    found = [number]
    for place in places:
        word = picture.objects[found[-1]][1][place]
        assert word % 2 == 0 and word > 0, "a word that is no reference"
        found.append(word // 2 - 1)
    return found


class KeepersTest(unittest.TestCase):

    def test_nothing(self):
        self.assertEqual(keepers(Picture([], [], [], [], [])), ())
        self.assertEqual(keepers(Picture([1, 0], [("main", 0, [3], [0])], [], [], [])), ())

    def test_a_chain(self):
        self.assertEqual(keepers(graph([0], [1], [2], [3], [])), (None, 0, 1, 2))
        for back in (False, True):
            self.assertEqual(keepers(chain(700, back)), (None,) + tuple(range(699)))

    def test_two_ways_to_it(self):
        self.assertEqual(keepers(graph([0], [1, 2], [3], [3], [])), (None, 0, 0, 0))
        self.assertEqual(keepers(graph([0, 1], [2], [2], [])), (None, None, None))
        self.assertEqual(keepers(graph([0, 0], [1, 1], [])), (None, 0))

    def test_a_way_around(self):
        self.assertEqual(keepers(graph([0], [1, 2], [], [3], [1])), (None, 0, 0, 2))
        self.assertEqual(keepers(graph([0, 1], [2], [3], [4], [4], [])), (None, None, 0, 1, None))

    def test_cycles(self):
        self.assertEqual(keepers(graph([0], [0])), (None,))
        self.assertEqual(keepers(graph([0], [1], [2], [0, 1])), (None, 0, 1))
        self.assertEqual(keepers(graph([0, 1], [2], [3], [3], [2])), (None, None, None, None))

    def test_all_rows_count(self):
        frames = [("main", 0, [4], [6]), ("work", 0, [8], [10])]
        picture = Picture([2], frames, [12], [14], [("node", [4, 6, 8, 10, 12, 14, 16])] + [("node", [])] * 7)
        self.assertEqual(keepers(picture), (None,) * 7 + (0,))

    def test_a_late_way_changes_many_keepers(self):
        # A chain each of whose objects refers back to the one before, and a long way to its last object.
        count = 60
        objects = [("c", [2 * number + 4 if number + 1 < count else 0, 2 * number]) for number in range(count)]
        objects += [("d", [2 * (count + number) + 4 if number + 1 < count else 2 * count]) for number in range(count)]
        picture = picture_of([2, 2 * count + 2], [], [], [], objects)
        found = keepers(picture)
        self.assertEqual(found, expected_keepers(picture))
        for number, (name, _) in enumerate(picture.objects):
            if name == "c":
                self.assertIsNone(found[number])

    def test_a_chain_that_refers_to_its_first_object(self):
        objects = [("node", [2 * number + 4 if number < 799 else 0, 4]) for number in range(800)]
        self.assertEqual(keepers(Picture([2], [], [], [], objects)), (None,) + tuple(range(799)))

    def test_against_the_definition(self):
        for seed in range(600):
            picture = random_picture(seed, 10)
            self.assertEqual(keepers(picture), expected_keepers(picture), seed)

    def test_example(self):
        self.assertEqual((keepers(picture=NODES), kept_words(NODES, 2)), ((None, None, None, 2), 6))
        self.assertIs(type(keepers(NODES)), tuple)


class TwoWaysTest(unittest.TestCase):

    def check(self, picture, number, keeper):
        """What the point says of the two ways; whether they are the same."""
        found = two_ways(picture, number)
        self.assertIs(type(found), tuple)
        one, two = found
        if keeper is None:
            for way in found:
                self.assertEqual([type(way), type(way[2]), len(way)], [tuple, tuple, 3])
            inner = [follow(picture, way) for way in found]
            single = one[2] == ()
        else:
            self.assertEqual([type(one), type(two)], [tuple, tuple])
            inner = [objects_along(picture, keeper, places)[1:] for places in found]
            single = len(one) == 1
        self.assertEqual([numbers[-1] for numbers in inner], [number, number])
        between = list(inner[0][:-1]) + list(inner[1][:-1])
        if one == two:
            self.assertTrue(single)
        self.assertEqual(len(set(between)), len(between))
        self.assertNotIn(number, between)
        self.assertNotIn(keeper, between)
        return one == two

    def check_all(self, picture):
        """What the point says of the two ways to each object; how many were different ones."""
        return [self.check(picture, number, keeper) for number, keeper in enumerate(keepers(picture))].count(False)

    def test_single_words(self):
        self.assertEqual(self.check_all(chain(5)), 0)
        self.assertEqual(two_ways(chain(5), 0), ((0, 0, ()), (0, 0, ())))
        self.assertEqual(two_ways(chain(5), 3), ((0,), (0,)))

    def test_two_ways_apart(self):
        for picture, number, wanted in (
            (graph([0], [1, 2], [3], [3], []), 3, [(0, 0), (1, 0)]),
            (graph([0], [1, 2], [3], [4], [5], [5], []), 5, [(0, 0, 0), (1, 0, 0)]),
            (NODES, 2, [(0, 0, (0,)), (0, 1, (0,))]),
        ):
            self.assertEqual(sorted(two_ways(picture, number)), wanted)

    def test_the_shortest_way_may_be_on_neither(self):
        # The shortest way to t, by a and x, crosses both others: a y u t and b z x t.
        picture = picture_of([2, 4], [], [], [], [("a", [8, 10]), ("b", [12]), ("t", []), ("x", [6]), ("y", [14]), ("z", [8]), ("u", [6])])
        self.assertEqual([name for name, _ in picture.objects], ["a", "b", "x", "y", "z", "t", "u"])
        self.assertEqual(self.check_all(picture), 2)
        ways = two_ways(picture, 5)
        self.assertEqual(sorted(follow(picture, way) for way in ways), [(0, 3, 6, 5), (1, 4, 2, 5)])

    def test_the_shortest_way_is_crossed_several_times(self):
        # Ladders whose rungs lead back to what the first chain took.
        for length in range(2, 12):
            for seed in range(20):
                rng = random.Random(length * 100 + seed)
                # 0 .. length - 1 are a chain to the target; the others lead from the root to some of it and from some of it on.
                target = 3 * length
                objects = [("p", [2 * number + 4 if number + 1 < length else 2 * target + 2]) for number in range(length)]
                for number in range(length):
                    objects[number][1].append(2 * (length + number) + 2)
                objects += [("q", [2 * (2 * length + number) + 2]) for number in range(length)]
                objects += [("r", [2 * rng.choice((rng.randrange(length), length + rng.randrange(length), target)) + 2]) for _ in range(length)]
                objects.append(("t", []))
                rows = [2] + [2 * (2 * length + rng.randrange(length)) + 2 for _ in range(rng.randrange(3))]
                picture = picture_of(rows, [], [], [], objects)
                self.assertEqual(keepers(picture), expected_keepers(picture))
                self.check_all(picture)

    def test_the_keeper_is_in_a_cycle(self):
        picture = graph([0], [1, 2], [3, 0], [3, 0], [0, 1, 2])
        self.assertEqual(keepers(picture), (None, 0, 0, 0))
        self.assertEqual(self.check_all(picture), 1)

    def test_objects_that_refer_to_themselves(self):
        picture = graph([0, 1], [0, 2], [1, 3], [2, 4, 3], [3, 4, 2], [4])
        self.assertEqual(keepers(picture), expected_keepers(picture))
        self.check_all(picture)

    def test_long_ways(self):
        count = 400
        objects = [("a", [2 * number + 4]) for number in range(count)] + [("b", [2 * (count + number) + 4]) for number in range(count)]
        objects[count - 1] = ("a", [4 * count + 2])
        objects += [("t", [])]
        picture = picture_of([2, 2 * count + 2], [], [], [], objects)
        self.assertFalse(self.check(picture, 2 * count, None))
        self.assertEqual(sorted(len(way[2]) for way in two_ways(picture, 2 * count)), [count, count])

    def test_random_pictures(self):
        different = 0
        for seed in range(600):
            different += self.check_all(random_picture(seed, 6 + seed % 25))
        self.assertGreater(different, 150)

    def test_by_name(self):
        self.assertEqual(two_ways(picture=NODES, number=3), ((0,), (0,)))


class KeptWordsTest(unittest.TestCase):

    def test_chains(self):
        self.assertEqual([kept_words(chain(4), number) for number in range(4)], [16, 12, 8, 4])
        self.assertEqual(kept_words(chain(900, True), 0), 3600)
        self.assertEqual(kept_words(chain(900, True), 899), 4)

    def test_what_is_held_another_way_does_not_count(self):
        picture = graph([0, 2], [1, 2, 3], [], [4], [4], [])
        self.assertEqual([kept_words(picture, number) for number in range(5)], [5 + 2 + 3, 2, 3, 3, 2])

    def test_sizes(self):
        picture = Picture([2], [], [], [], [("row", [4] * 1000), ("bare", [])])
        self.assertEqual((kept_words(picture, 0), kept_words(picture, 1)), (1004, 2))

    def test_a_cycle_behind_it(self):
        self.assertEqual([kept_words(graph([0], [1], [2], [1, 0]), number) for number in range(3)], [3 + 3 + 4, 7, 4])

    def test_against_the_definition(self):
        for seed in range(400):
            picture = random_picture(seed, 12)
            for number in range(len(picture.objects)):
                wanted = sum(len(picture.objects[other][1]) + 2 for other in kept_by(picture, number) | {number})
                self.assertEqual(kept_words(picture, number), wanted, seed)

    def test_by_name(self):
        self.assertEqual(kept_words(picture=NODES, number=3), 3)


class NoObjectTest(unittest.TestCase):

    def test_numbers_that_are_not_there(self):
        for picture, numbers in ((NODES, (-1, -4, -5, 4, 5, 10 ** 20)), (Picture([], [], [], [], []), (-1, 0, 1)), (chain(1), (-1, 1))):
            for number in numbers:
                for some in (two_ways, kept_words):
                    with self.assertRaises(NoObject) as caught:
                        some(picture, number)
                    self.assertEqual(caught.exception.number, number)
                    self.assertIsInstance(caught.exception, QuietError)


if __name__ == "__main__":
    unittest.main()
