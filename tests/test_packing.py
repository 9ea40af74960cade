"""Point 17: the octets of a program."""

import unittest

from quietbroom.packing import pack
from quietbroom.programs import make_program
from tests.samples import FUNCTIONS, SHAPES, STATICS, random_parts, simple

HEAD = (0, 0, 1, 4, 109, 97, 105, 110, 0, 0)

EVERY_SHAPE = (
    5,
    3, 98, 111, 120, 0, 2, 5, 118, 97, 108, 117, 101, 0, 4, 110, 101, 120, 116, 1,
    4, 98, 97, 114, 101, 0, 0,
    3, 114, 111, 119, 1, 1,
    4, 108, 111, 111, 107, 2, 5,
    3, 116, 105, 101, 3, 1, 0,
)
EVERY_STATIC = (2, 4, 98, 101, 115, 116, 0, 4, 107, 101, 112, 116, 3)
EVERY_HEAD = (
    2,
    4, 109, 97, 105, 110, 1, 0, 0, 3, 40,
    4, 119, 111, 114, 107, 2, 1, 0, 5, 2, 2,
)
EVERY_BODY = (
    0, 13, 1, 2, 3, 4, 5, 6, 7, 8, 9, 10, 11, 12, 0, 13, 2, 14, 0, 15, 1, 16, 3, 17, 39, 18, 1, 19, 20, 21,
    22, 4, 23, 2, 24, 3, 25, 1, 26, 0, 0, 27, 0, 1, 28, 2, 29, 2, 30, 2, 31, 2, 32, 3, 33, 3, 34, 4, 35, 4, 36, 4,
    37, 0, 38, 1, 39,
    22, 3, 19,
)


class PackTest(unittest.TestCase):

    def packed(self, body, slots=0):
        """The octets behind the number of slots of a program of one function."""
        octets = pack(make_program(*simple(body, slots)))
        self.assertEqual(octets[:len(HEAD)], HEAD)
        return octets[len(HEAD):]

    def test_every_shape_and_every_operation(self):
        program = make_program(SHAPES, STATICS, FUNCTIONS)
        wanted = EVERY_SHAPE + EVERY_STATIC + EVERY_HEAD + EVERY_BODY
        self.assertEqual(pack(program), wanted)
        self.assertEqual(pack(program=program), wanted)

    def test_it_is_a_tuple_of_octets(self):
        for seed in range(40):
            octets = pack(make_program(*random_parts(seed)))
            self.assertIs(type(octets), tuple)
            self.assertTrue(all(type(octet) is int and 0 <= octet <= 255 for octet in octets))

    def test_numbers(self):
        for n, octets in (
            (0, (0,)), (1, (2,)), (-1, (1,)), (-2, (3,)), (63, (126,)), (-64, (127,)), (64, (128, 1)), (-65, (129, 1)),
            (8191, (254, 127)), (-8192, (255, 127)), (8192, (128, 128, 1)),
            (2147483647, (254, 255, 255, 255, 15)), (-2147483648, (255, 255, 255, 255, 15)),
        ):
            self.assertEqual(self.packed([("num", n)]), (0, 1, 0) + octets)

    def test_slots(self):
        self.assertEqual(self.packed([("store", 15), ("load", 0)], 16), (16, 2, 13, 15, 12, 0))

    def test_places_and_lengths_of_two_octets(self):
        body = [("halt",)] * 199 + [("when", 199)]
        self.assertEqual(self.packed(body), (0, 200, 1) + (20,) * 199 + (17, 199, 1))
        body = [("jump", 128)] + [("halt",)] * 128
        self.assertEqual(self.packed(body), (0, 129, 1, 16, 128, 1) + (20,) * 128)

    def test_codes_of_results(self):
        shapes = [("a", "record", []), ("b", "record", [])]
        for result, code in ((None, 0), ("num", 1), ("a", 2), ("b", 3)):
            functions = [("f", [], None, 0, [("halt",)]), ("g", [], result, 0, [("halt",)])]
            octets = pack(make_program(shapes, [], functions))
            self.assertEqual(octets[-12:], (1, 102, 0, 0, 0, 1, 1, 103, 0, code, 0, 1, 20, 20)[-12:])

    def test_bodies_stand_behind_all_heads(self):
        functions = [("f", [], None, 0, [("call", "g"), ("halt",)]), ("g", [], None, 1, [("load", 0)])]
        wanted = (0, 0, 2, 1, 102, 0, 0, 0, 2, 1, 103, 0, 0, 1, 1, 18, 1, 20, 12, 0)
        self.assertEqual(pack(make_program([], [], functions)), wanted)

    def test_a_field_is_counted_in_its_own_record(self):
        shapes = [("a", "record", [("x", "num"), ("y", "num")]), ("b", "record", [("y", "num"), ("x", "a")])]
        body = [("get", "a", "y"), ("get", "b", "y"), ("put", "b", "x")]
        octets = pack(make_program(shapes, [], [("f", [], None, 0, body)]))
        self.assertEqual(octets[-9:], (26, 0, 1, 26, 1, 0, 27, 1, 1))

    def test_examples(self):
        body = [("num", -2), ("tell",), ("back",)]
        wanted = (0, 0, 1, 4, 109, 97, 105, 110, 0, 0, 0, 3, 0, 3, 21, 19)
        self.assertEqual(pack(make_program([], [], [("main", [], None, 0, body)])), wanted)
        body = [("num", 64), ("store", 0), ("halt",)]
        wanted = (0, 0, 1, 1, 97, 0, 0, 1, 3, 0, 128, 1, 13, 0, 20)
        self.assertEqual(pack(make_program([], [], [("a", [], None, 1, body)])), wanted)


if __name__ == "__main__":
    unittest.main()
