"""Points 76 and 77: ways in a picture."""

import unittest

from quietbroom.errors import NoObject, QuietError
from quietbroom.pictures import Picture
from quietbroom.ways import follow, referrers, way_to
from tests.graphs_of import all_ways, chain, random_picture, targets

# The rows: statics, slots and stack of two frames, watched, parted.
PICTURE = Picture([1, 2, 0], [("main", 0, [4, 2], []), ("work", 3, [], [5, 6, 4])], [8], [4, 10],
                  [("box", [3, 4]), ("box", [0, 2]), ("row", [6, 0, 12, 12]), ("bare", []), ("look", [2]), ("box", [-3, 0])])
NODES = Picture([2, 4], [], [], [], [("node", [6]), ("node", [6]), ("node", [8]), ("node", [0])])


class FollowTest(unittest.TestCase):

    def test_rows(self):
        for row, position, wanted in ((0, 1, 0), (1, 0, 1), (1, 1, 0), (4, 1, 2), (4, 2, 1), (5, 0, 3), (6, 0, 1), (6, 1, 4)):
            self.assertEqual(follow(PICTURE, (row, position, ())), (wanted,))

    def test_steps(self):
        for steps, wanted in (((), (0,)), ((1,), (0, 1)), ((1, 1), (0, 1, 0)), ((1, 1, 1, 1), (0, 1, 0, 1, 0))):
            self.assertEqual(follow(PICTURE, (0, 1, steps)), wanted)
        self.assertEqual(follow(PICTURE, (4, 1, (0, 0, 0, 3))), (2, 2, 2, 2, 5))
        self.assertEqual(follow(PICTURE, (6, 1, (0, 1))), (4, 0, 1))

    def test_lists_and_tuples(self):
        way = [0, 1, [1, 1]]
        self.assertEqual((follow(PICTURE, way), way), ((0, 1, 0), [0, 1, [1, 1]]))
        self.assertEqual(follow(picture=PICTURE, way=(0, 1, [1])), (0, 1))
        self.assertIs(type(follow(PICTURE, way)), tuple)

    def test_rows_that_are_not_there(self):
        for row in (-1, -7, 7, 8, 100, 10 ** 20, -10 ** 20):
            for position in (-1, 0, 1):
                self.assertIsNone(follow(PICTURE, (row, position, ())))

    def test_positions_that_are_not_there(self):
        for row, position in ((0, -1), (0, -2), (0, 3), (1, 2), (2, 0), (2, -1), (3, 0), (4, 3), (4, -1), (5, 1), (5, -1), (6, 2), (6, -2)):
            self.assertIsNone(follow(PICTURE, (row, position, ())))
            self.assertIsNone(follow(PICTURE, (row, position, (1,))))

    def test_places_that_are_not_there(self):
        for steps in ((-1,), (2,), (1, -1), (1, 2), (1, 1, 2), (10 ** 20,)):
            self.assertIsNone(follow(PICTURE, (0, 1, steps)))
        for row, position, steps in ((5, 0, (0,)), (5, 0, (-1,)), (4, 1, (4,)), (4, 1, (-1,)), (4, 1, (0, -4))):
            self.assertIsNone(follow(PICTURE, (row, position, steps)))

    def test_words_that_are_no_references(self):
        for row, position in ((0, 0), (0, 2), (4, 0)):
            self.assertIsNone(follow(PICTURE, (row, position, ())))
            self.assertIsNone(follow(PICTURE, (row, position, (0,))))
        for steps in ((0,), (1, 0), (0, 1), (1, 0, 0)):
            self.assertIsNone(follow(PICTURE, (0, 1, steps)))
        for steps in ((1,), (2, 0), (2, 1), (3, 0, 0)):
            self.assertIsNone(follow(PICTURE, (4, 1, steps)))

    def test_a_picture_without_objects(self):
        picture = Picture([], [], [], [], [])
        for row in range(-1, 4):
            self.assertIsNone(follow(picture, (row, 0, ())))

    def test_example(self):
        self.assertEqual([follow(NODES, (0, 1, [0, 0])), follow(NODES, (0, -1, ())), follow(NODES, (0, 0, (0, 0, 0)))],
                         [(1, 2, 3), None, None])


class WayTest(unittest.TestCase):

    def test_ways(self):
        self.assertEqual([way_to(PICTURE, number) for number in range(6)],
                         [(0, 1, ()), (1, 0, ()), (4, 1, ()), (5, 0, ()), (6, 1, ()), (4, 1, (2,))])

    def test_the_least_of_the_shortest_ways(self):
        # Object 3 is two steps away by three objects and several places.
        picture = Picture([8, 4], [], [], [], [("a", [])])
        picture = Picture([], [], [2, 4, 6], [], [("a", [0, 10]), ("a", [10, 8, 8]), ("a", [8]), ("b", []), ("b", [])])
        self.assertEqual((way_to(picture, 3), way_to(picture, 4)), ((1, 1, (1,)), (1, 0, (1,))))
        picture = Picture([0, 2], [], [2], [2, 2], [("a", [1, 4, 4]), ("a", [4, 6]), ("a", [2, 4])])
        self.assertEqual([way_to(picture, number) for number in range(3)], [(0, 1, ()), (0, 1, (1,)), (0, 1, (1, 1))])

    def test_a_shorter_way_is_better_than_a_lesser_one(self):
        picture = Picture([2], [], [], [4], [("a", [4]), ("a", [])])
        self.assertEqual(way_to(picture, 1), (2, 0, ()))

    def test_against_a_search_through_all_ways(self):
        for seed in range(300):
            picture = random_picture(seed, 6)
            wanted = {}
            for way, number in all_ways(picture, 5):
                wanted.setdefault(number, way)
            for number in range(len(picture.objects)):
                way = way_to(picture, number)
                self.assertEqual(way, wanted[number], seed)
                self.assertEqual(follow(picture, way)[-1], number)

    def test_long_chains(self):
        for back in (False, True):
            picture = chain(900, back)
            self.assertEqual(way_to(picture, 899), (0, 0, (0,) * 899))
            self.assertEqual(follow(picture, (0, 0, (0,) * 899)), tuple(range(900)))

    def test_no_object(self):
        for picture, numbers in ((PICTURE, (-1, -6, -7, 6, 7, 10 ** 20)), (NODES, (-1, -4, 4)), (Picture([], [], [], [], []), (-1, 0, 1))):
            for number in numbers:
                for some in (way_to, referrers):
                    with self.assertRaises(NoObject) as caught:
                        some(picture, number)
                    self.assertEqual(caught.exception.number, number)
                    self.assertIsInstance(caught.exception, QuietError)

    def test_example(self):
        self.assertEqual((way_to(NODES, 1), way_to(picture=NODES, number=3)), ((0, 1, ()), (0, 0, (0, 0))))


class ReferrersTest(unittest.TestCase):

    def test_rows_then_objects(self):
        self.assertEqual([referrers(PICTURE, number) for number in range(6)], [
            (("row", 0, 1), ("row", 1, 1), ("object", 1, 1), ("object", 4, 0)),
            (("row", 1, 0), ("row", 4, 2), ("row", 6, 0), ("object", 0, 1)),
            (("row", 4, 1), ("object", 2, 0)),
            (("row", 5, 0),),
            (("row", 6, 1),),
            (("object", 2, 2), ("object", 2, 3)),
        ])

    def test_against_all_words(self):
        for seed in range(200):
            picture = random_picture(seed)
            for number in range(len(picture.objects)):
                found = [("row", row, at) for row, words in enumerate(picture.rows()) for at, word in enumerate(words)
                         if targets([word]) == [number]]
                found += [("object", other, at) for other, (_, words) in enumerate(picture.objects) for at, word in enumerate(words)
                          if targets([word]) == [number]]
                self.assertEqual(referrers(picture, number), tuple(found))

    def test_by_name_and_kinds(self):
        found = referrers(picture=PICTURE, number=0)
        self.assertEqual([type(found), {type(one) for one in found}], [tuple, {tuple}])

    def test_example(self):
        self.assertEqual((referrers(NODES, 1), referrers(NODES, 2)), ((("row", 0, 1),), (("object", 0, 0), ("object", 1, 0))))


if __name__ == "__main__":
    unittest.main()
