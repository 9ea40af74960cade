"""Point 18: programs that are read back from octets, and octets that are none."""

import random
import unittest

from quietbroom.errors import BadCode, BadProgram
from quietbroom.octets import encode_number
from quietbroom.packing import pack
from quietbroom.programs import make_program
from quietbroom.unpacking import unpack
from tests.samples import FUNCTIONS, SHAPES, STATICS, random_parts, simple

MOST = 34359738367


def text(word):
    """The integers of a text, each with the values that may stand in its place."""
    return [(len(word), range(1, 17))] + [(ord(sign), range(33, 127)) for sign in word]


def plain(*pairs):
    """Integers, each with the number of values from 0 on that may stand in its place."""
    return [(n, range(count)) for n, count in pairs]


def every_integer():
    """The integers of the sample program, each with the values that may stand in its place."""
    found = plain((5, 41))
    found += text("box") + plain((0, 4), (2, 9)) + text("value") + plain((0, 6)) + text("next") + plain((1, 6))
    found += text("bare") + plain((0, 4), (0, 9))
    found += text("row") + plain((1, 4), (1, 6))
    found += text("look") + plain((2, 4), (5, 6))
    found += text("tie") + plain((3, 4), (1, 6), (0, 6))
    found += plain((2, 21)) + text("best") + plain((0, 6)) + text("kept") + plain((3, 6))
    found += [(2, range(1, 21))]
    found += text("main") + plain((1, 7), (0, 6), (0, 7), (3, 17)) + [(40, range(1, 201))]
    found += text("work") + plain((2, 7), (1, 6), (0, 6), (5, 7), (2, 17)) + [(2, range(1, 201))]
    operands = {
        0: [(13, range(4294967296))], 12: plain((0, 3)), 13: plain((2, 3)), 14: plain((0, 2)), 15: plain((1, 2)),
        16: plain((3, 40)), 17: plain((39, 40)), 18: plain((1, 2)), 22: plain((4, 5)), 23: plain((2, 5)),
        24: plain((3, 5)), 25: [(1, (0, 1))], 26: [(0, (0, 1)), (0, (0, 1))], 27: [(0, (0, 1)), (1, (0, 1))],
        28: [(2, (2,))], 29: [(2, (2,))], 30: [(2, (2,))], 31: [(2, (2,))], 32: [(3, (3,))], 33: [(3, (3,))],
        34: [(4, (4,))], 35: [(4, (4,))], 36: [(4, (4,))], 37: plain((0, 5)), 38: plain((1, 5)),
    }
    for number in range(40):
        found += plain((number, 40)) + operands.get(number, [])
    return found + plain((22, 40), (3, 5), (19, 40))


EVERY = every_integer()
CODES = [encode_number(n) for n, _ in EVERY]
OCTETS = tuple(octet for code in CODES for octet in code)


class UnpackTest(unittest.TestCase):

    def refused(self, octets, at):
        for some in (tuple(octets), list(octets)):
            with self.assertRaises(BadCode) as caught:
                unpack(some)
            self.assertEqual(caught.exception.at, at, some)

    def refused_program(self, octets, part, number, place, why):
        with self.assertRaises(BadProgram) as caught:
            unpack(octets)
        error = caught.exception
        self.assertEqual((error.part, error.number, error.place, error.why), (part, number, place, why), octets)


class ReadBackTest(UnpackTest):

    def test_the_integers_of_the_sample(self):
        self.assertEqual(pack(make_program(SHAPES, STATICS, FUNCTIONS)), OCTETS)

    def test_every_shape_and_every_operation(self):
        self.assertEqual(unpack(OCTETS).data(), (SHAPES, STATICS, FUNCTIONS))
        self.assertEqual(unpack(list(OCTETS)).data(), (SHAPES, STATICS, FUNCTIONS))
        self.assertEqual(unpack(octets=OCTETS).data(), (SHAPES, STATICS, FUNCTIONS))

    def test_all_sorts_of_programs(self):
        for seed in range(60):
            program = make_program(*random_parts(seed))
            self.assertEqual(unpack(pack(program)).data(), program.data())

    def test_numbers(self):
        for n in (0, 1, -1, 63, 64, -64, -65, 8191, -8192, 8192, 2147483647, -2147483648):
            parts = simple([("num", n)])
            self.assertEqual(unpack(pack(make_program(*parts))).data(), parts)

    def test_as_large_as_can_be(self):
        fields = tuple((f"longfieldname{k:03}", f"longshapename{39 - k:03}") for k in range(8))
        shapes = tuple((f"longshapename{k:03}", "record", fields) for k in range(40))
        statics = tuple((f"longstatic{k:06}", "longshapename039") for k in range(20))
        params = ("longshapename039",) * 6
        body = (("num", -2147483648), ("put", "longshapename039", "longfieldname007")) * 99 + (("when", 199), ("load", 15))
        functions = (("main", ("num",) * 6, None, 16, body),)
        functions += tuple((f"longfunction{k:04}", params, "longshapename039", 16, body) for k in range(19))
        parts = (shapes, statics, functions)
        self.assertEqual(unpack(pack(make_program(*parts))).data(), parts)

    def test_what_is_passed_stays(self):
        octets = list(OCTETS)
        program = unpack(octets)
        self.assertEqual(octets, list(OCTETS))
        octets.clear()
        self.assertEqual(program.data(), (SHAPES, STATICS, FUNCTIONS))

    def test_a_program_exactly_if_pack_returns_it(self):
        rng = random.Random(5)
        for octets in [OCTETS] + [pack(make_program(*simple([("num", 5), ("jump", 0), ("halt",)])))] * 4:
            for at in range(len(octets)):
                for value in (0, octets[at] + 1, octets[at] ^ 128, rng.randrange(256)):
                    changed = octets[:at] + (value % 256,) + octets[at + 1:]
                    try:
                        program = unpack(changed)
                    except (BadCode, BadProgram):
                        continue
                    self.assertEqual(pack(program), changed)


class BadCodeTest(UnpackTest):

    def first_octets(self):
        """For each integer of the sample its number, the octets ahead of it and those behind it."""
        at = 0
        for number, code in enumerate(CODES):
            yield number, OCTETS[:at], OCTETS[at + len(code):]
            at += len(code)

    def test_out_of_range(self):
        some = [0, 1, 2, 3, 4, 5, 6, 7, 8, 9, 16, 17, 20, 21, 32, 33, 39, 40, 41, 126, 127, 128, 200, 201,
                4294967295, 4294967296, MOST]
        for number, ahead, behind in self.first_octets():
            allowed = EVERY[number][1]
            for wrong in some:
                if wrong not in allowed:
                    self.refused(ahead + encode_number(wrong) + behind, len(ahead))
                    self.refused(ahead + encode_number(wrong), len(ahead))

    def test_just_outside(self):
        for number, ahead, behind in self.first_octets():
            allowed = EVERY[number][1]
            for wrong in (allowed[0] - 1, allowed[-1] + 1):
                if wrong >= 0:
                    self.refused(ahead + encode_number(wrong) + behind, len(ahead))

    def test_cut_off_ahead_of_an_integer(self):
        for _, ahead, _ in self.first_octets():
            self.refused(ahead, len(ahead))

    def test_cut_off_within_an_integer(self):
        for number, ahead, _ in self.first_octets():
            for begun in ((128,), (255,), (255, 255), (128,) * 5, (128,) * 9, (CODES[number][0] | 128,)):
                self.refused(ahead + begun, len(ahead))

    def test_a_needless_last_octet(self):
        for number, ahead, behind in self.first_octets():
            code = CODES[number]
            self.refused(ahead + code[:-1] + (code[-1] + 128, 0) + behind, len(ahead))

    def test_more_than_five_octets(self):
        for number, ahead, behind in self.first_octets():
            self.refused(ahead + (128,) * 5 + (1,) + behind, len(ahead))
            self.refused(ahead + (CODES[number][0] | 128,) + (128,) * 5 + (0,) + behind, len(ahead))

    def test_octets_that_are_left(self):
        for left in ((0,), (19,), (128,), (255, 255), (0,) * 50):
            self.refused(OCTETS + left, len(OCTETS))

    def test_nothing(self):
        self.refused((), 0)

    def test_in_a_function_without_slots(self):
        for operation in (12, 13):
            for slot in (0, 1, 5):
                self.refused((0, 0, 1, 1, 97, 0, 0, 0, 1, operation, slot), 10)

    def test_where_there_is_nothing_of_a_family(self):
        for operation in (14, 15, 22, 23, 24, 25, 28, 29, 30, 31, 32, 33, 34, 35, 36, 37, 38):
            self.refused((0, 0, 1, 1, 97, 0, 0, 0, 1, operation, 0), 10)
        self.refused((0, 0, 1, 1, 97, 0, 0, 0, 1, 26, 0, 0), 10)
        self.refused((1, 1, 97, 0, 0, 0, 1, 1, 97, 0, 0, 0, 1, 26, 0, 0), 15)

    def test_fields_of_their_own_record(self):
        shapes = [("a", "record", [("x", "num")]), ("b", "record", [("x", "num"), ("y", "num")])]
        octets = pack(make_program(shapes, [], [("f", [], None, 0, [("put", "b", "y"), ("get", "a", "x")])]))
        self.assertEqual(octets[-6:], (27, 1, 1, 26, 0, 0))
        self.refused(octets[:-6] + (27, 1, 2, 26, 0, 0), len(octets) - 4)
        self.refused(octets[:-6] + (27, 1, 1, 26, 0, 1), len(octets) - 1)

    def test_the_first_wrong_integer_is_told(self):
        self.refused((0, 0, 1, 1, 97, 0, 0, 17, 201, 40), 7)
        self.refused((0, 0, 1, 1, 97, 0, 0, 17, 1, 40, 5, 5), 7)
        self.refused((41, 0, 21), 0)
        self.refused((0, 21, 0), 1)
        self.refused((0, 0, 0, 0), 2)

    def test_it_is_told_before_a_bad_program(self):
        self.refused((0, 0, 1, 1, 65, 0, 0, 0, 1, 40), 9)
        self.refused((0, 0, 1, 1, 65, 0, 0, 0, 1, 20, 20), 10)
        self.refused((1, 1, 97, 2, 0, 0, 1, 1, 97, 0, 0, 0, 1, 33, 1), 14)

    def test_records_with_one_name_are_told_apart(self):
        ahead = (2, 1, 97, 0, 1, 1, 120, 0, 1, 97, 0, 0, 0, 1, 1, 97, 0, 0, 0, 1, 26)
        self.refused(ahead + (1, 0), len(ahead) + 1)
        self.refused_program(ahead + (0, 0), "shape", 1, -1, "twice")


class BadProgramTest(UnpackTest):

    def test_signs_that_no_name_has(self):
        main = (0, 1, 1, 97, 0, 0, 0, 1, 20)
        for code in range(256):
            sign = encode_number(code)
            name = (2, 98) + sign
            cases = (
                ((1,) + name + (0, 0) + main, 3, ("shape", 0, -1, "name")),
                ((1, 1, 98, 0, 1) + name + (0,) + main, 7, ("shape", 0, -1, "fields")),
                ((0, 1) + name + (0, 1, 1, 97, 0, 0, 0, 1, 20), 4, ("static", 0, -1, "name")),
                ((0, 0, 1) + name + (0, 0, 0, 1, 20), 5, ("function", 0, -1, "name")),
            )
            for octets, at, told in cases:
                if not 33 <= code <= 126:
                    self.refused(octets, at)
                elif chr(code).isdigit() or chr(code).islower():
                    self.assertEqual(pack(unpack(octets)), octets)
                else:
                    self.refused_program(octets, *told)

    def test_names(self):
        for word in ("num", "mixed", "unset", "1a", "Box"):
            name = (len(word), *[ord(sign) for sign in word])
            self.refused_program((0, 0, 1) + name + (0, 0, 0, 1, 20), "function", 0, -1, "name")
            self.refused_program((1,) + name + (0, 0, 0, 1, 1, 97, 0, 0, 0, 1, 20), "shape", 0, -1, "name")

    def test_a_shape_called_num(self):
        octets = (1, 3, 110, 117, 109, 0, 0, 1, 1, 97, 1, 1, 1, 97, 0, 0, 0, 1, 22, 0)
        self.refused_program(octets, "shape", 0, -1, "name")

    def test_twice(self):
        main = (0, 1, 1, 97, 0, 0, 0, 1, 20)
        self.refused_program((2, 1, 98, 0, 0, 1, 98, 1, 2) + main, "shape", 1, -1, "twice")
        self.refused_program((1, 1, 98, 0, 2, 1, 99, 0, 1, 99, 1) + main, "shape", 0, -1, "fields")
        self.refused_program((0, 2, 1, 98, 0, 1, 98, 0, 1, 1, 97, 0, 0, 0, 1, 20), "static", 1, -1, "twice")
        self.refused_program((0, 0, 2, 1, 97, 0, 0, 0, 1, 1, 97, 0, 0, 0, 1, 20, 20), "function", 1, -1, "twice")

    def test_num_where_a_shape_is_wanted(self):
        main = (0, 1, 1, 97, 0, 0, 0, 1, 20)
        self.refused_program((1, 1, 98, 2, 0) + main, "shape", 0, -1, "kind")
        self.refused_program((1, 1, 98, 3, 0, 1) + main, "shape", 0, -1, "kind")
        self.assertEqual(unpack((1, 1, 98, 3, 1, 0) + main).shapes[0].fields, (("key", "b"), ("value", "num")))

    def test_slots_and_entry(self):
        self.refused_program((0, 0, 1, 1, 97, 2, 0, 0, 0, 1, 1, 20), "function", 0, -1, "slots")
        self.refused_program((0, 0, 1, 1, 97, 0, 1, 0, 1, 20), "function", 0, -1, "entry")
        self.refused_program((1, 1, 98, 0, 0, 0, 1, 1, 97, 1, 1, 0, 1, 1, 20), "function", 0, -1, "entry")

    def test_examples(self):
        octets = [0, 0, 1, 4, 109, 97, 105, 110, 0, 0, 0, 3, 0, 3, 21, 19]
        body = (("num", -2), ("tell",), ("back",))
        self.assertEqual(unpack(octets).data(), ((), (), (("main", (), None, 0, body),)))
        self.refused((0, 0, 1, 1, 97, 0, 0, 0, 1, 16, 1), 10)


if __name__ == "__main__":
    unittest.main()
