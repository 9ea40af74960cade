"""Point 16: integers as octets."""

import unittest

from quietbroom.errors import BadCode
from quietbroom.octets import decode_number, encode_number

EDGES = (
    (0, (0,)), (1, (1,)), (126, (126,)), (127, (127,)),
    (128, (128, 1)), (129, (129, 1)), (255, (255, 1)), (256, (128, 2)), (300, (172, 2)),
    (16383, (255, 127)), (16384, (128, 128, 1)), (16385, (129, 128, 1)),
    (2097151, (255, 255, 127)), (2097152, (128, 128, 128, 1)),
    (268435455, (255, 255, 255, 127)), (268435456, (128, 128, 128, 128, 1)),
    (34359738366, (254, 255, 255, 255, 127)), (34359738367, (255, 255, 255, 255, 127)),
)


class EncodeTest(unittest.TestCase):

    def test_edges(self):
        for n, octets in EDGES:
            self.assertEqual(encode_number(n), octets)
            self.assertIs(type(encode_number(n=n)), tuple)


class DecodeTest(unittest.TestCase):

    def refused(self, octets, at, told):
        for some in (list(octets), tuple(octets)):
            with self.assertRaises(BadCode) as caught:
                decode_number(some, at)
            self.assertEqual(caught.exception.at, told, (octets, at))

    def test_edges(self):
        for n, octets in EDGES:
            self.assertEqual(decode_number(octets, 0), (n, len(octets)))

    def test_at_any_index(self):
        for n, octets in EDGES:
            for ahead in ((), (5,), (0, 200, 0), (128, 128, 128, 128, 128, 128), (255,)):
                for behind in ((), (0,), (255,), (128, 0)):
                    every = ahead + octets + behind
                    wanted = (n, len(ahead) + len(octets))
                    self.assertEqual(decode_number(every, len(ahead)), wanted)
                    self.assertEqual(decode_number(list(every), len(ahead)), wanted)

    def test_one_behind_another(self):
        octets, wanted = [], []
        for n in list(range(0, 70000, 61)) + [n for n, _ in EDGES]:
            octets.extend(encode_number(n))
            wanted.append(n)
        at, found = 0, []
        while at < len(octets):
            n, at = decode_number(octets, at)
            found.append(n)
        self.assertEqual(found, wanted)

    def test_by_name(self):
        self.assertEqual(decode_number(at=1, octets=[9, 172, 2]), (300, 3))

    def test_what_is_passed_stays(self):
        octets = [9, 172, 2]
        decode_number(octets, 1)
        self.refused(octets, 3, 3)
        self.assertEqual(octets, [9, 172, 2])

    def test_no_octet_below_128_left(self):
        self.refused((), 0, 0)
        self.refused((128,), 0, 1)
        self.refused((1, 200, 200), 1, 3)
        self.refused((1, 2, 3), 3, 3)
        self.refused((5, 255, 255, 255, 255), 1, 5)
        self.refused((5,) + (255,) * 9, 1, 10)
        self.refused((5,) + (255,) * 9, 4, 10)

    def test_more_than_five_octets(self):
        self.refused((128,) * 5 + (1,), 0, 0)
        self.refused((3,) + (255,) * 5 + (127, 4), 1, 1)
        self.refused((3,) + (255,) * 30 + (1,), 2, 2)
        self.refused((255,) * 5 + (0,), 0, 0)
        self.assertEqual(decode_number((255,) * 5 + (1,), 1), (536870911, 6))

    def test_a_needless_last_octet(self):
        self.refused((128, 0), 0, 0)
        self.refused((5, 128, 0), 1, 1)
        self.refused((5, 255, 255, 0, 7), 1, 1)
        self.refused((5, 255, 255, 255, 255, 0, 7), 1, 1)
        self.assertEqual(decode_number((5, 128, 0), 2), (0, 3))

    def test_examples(self):
        self.assertEqual((encode_number(300), decode_number([9, 172, 2], 1)), ((172, 2), (300, 3)))
        self.refused([1, 200, 200], 1, 3)
        self.refused((5, 128, 0), 1, 1)


if __name__ == "__main__":
    unittest.main()
