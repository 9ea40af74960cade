"""Points 40 and 41: pictures, and how a standing becomes one."""

import random
import unittest
from unittest import mock

from quietbroom.graphs import held_order
from quietbroom.pictures import Picture, picture_of
from tests.objects import random_standing
from tests.samples import as_lists

PARTS = (
    (7, 0), (("main", 2, (0, 2), (4,)), ("work", 0, (), ())), (2, 2), (4,), (("box", (-1, 4)), ("row", ()))
)
NAMES = ("statics", "frames", "watched", "parted", "objects")


def parts_of(picture):
    """The five parts."""
    return tuple(getattr(picture, name) for name in NAMES)


class PictureTest(unittest.TestCase):

    def all_tuples(self, value):
        self.assertNotIsInstance(value, list)
        if isinstance(value, tuple):
            for part in value:
                self.all_tuples(part)

    def test_parts(self):
        for some in (PARTS, as_lists(PARTS)):
            picture = Picture(*some)
            self.assertEqual(parts_of(picture), PARTS)
            self.all_tuples(parts_of(picture))
            self.assertEqual(vars(picture), dict(zip(NAMES, PARTS)))

    def test_empty_parts(self):
        self.assertEqual(parts_of(Picture([], [], [], [], [])), ((),) * 5)
        self.assertEqual(parts_of(Picture((), [("", 0, [], [])], (), (), [("", [])])),
                         ((), (("", 0, (), ()),), (), (), (("", ()),)))

    def test_by_name(self):
        picture = Picture(objects=PARTS[4], parted=PARTS[3], watched=PARTS[2], frames=PARTS[1], statics=PARTS[0])
        self.assertEqual(parts_of(picture), PARTS)

    def test_it_looks_at_nothing(self):
        odd = ([-4, 10 ** 30, 99], [["Not a name", -7, [500], [-2, 3]]], [1, 0, 77], [-1], [["", [6, 6]], ["num", []]])
        picture = Picture(*odd)
        self.assertEqual(as_lists(parts_of(picture)), list(odd))

    def test_arguments_may_be_changed_afterwards(self):
        parts = as_lists(PARTS)
        picture = Picture(*parts)
        parts[0].append(1)
        parts[1][0][2][1] = 99
        parts[1].pop()
        parts[2].clear()
        parts[3][0] = 0
        parts[4][0][1].append(5)
        parts[4][1][0] = "other"
        self.assertEqual(parts_of(picture), PARTS)

    def test_arguments_stay(self):
        parts = as_lists(PARTS)
        Picture(*parts).rows()
        self.assertEqual(parts, as_lists(PARTS))

    def test_rows(self):
        picture = Picture(*as_lists(PARTS))
        self.assertEqual(picture.rows(), ((7, 0), (0, 2), (4,), (), (), (2, 2), (4,)))
        self.all_tuples(picture.rows())
        self.assertEqual(Picture([], [], [], [], []).rows(), ((), (), ()))
        self.assertEqual(Picture([1], [], [2], [4], [("box", [8])]).rows(), ((1,), (2,), (4,)))

    def test_equal(self):
        one, two = Picture(*PARTS), Picture(*as_lists(PARTS))
        self.assertIs(one == two, True)
        self.assertIs(one != two, False)
        self.assertIs(one == one, True)

    def test_different_in_one_part(self):
        others = ((7,), PARTS[1][:1], (2,), (2,), (("box", (-1, 2)), ("row", ())))
        for place, other in enumerate(others):
            changed = Picture(*PARTS[:place], other, *PARTS[place + 1:])
            self.assertIs(Picture(*PARTS) == changed, False)
            self.assertIs(Picture(*PARTS) != changed, True)

    def test_different_in_one_entry(self):
        frames = (
            (("main", 2, (0, 2), (4,)), ("last", 0, (), ())), (("main", 2, (0, 2), (4,)), ("work", 1, (), ())),
            (("main", 2, (0, 4), (4,)), ("work", 0, (), ())), (("main", 2, (0, 2), (6,)), ("work", 0, (), ())),
            (("main", 2, (0, 2, 4), ()), ("work", 0, (), ())), (("work", 0, (), ()), ("main", 2, (0, 2), (4,))),
        )
        for some in frames:
            self.assertNotEqual(Picture(*PARTS), Picture(PARTS[0], some, *PARTS[2:]))

    def test_lists_are_not_exchanged(self):
        self.assertNotEqual(Picture([], [], [2], [], []), Picture([], [], [], [2], []))
        self.assertNotEqual(Picture([2], [], [], [], []), Picture([], [], [2], [], []))

    def test_things_that_are_no_picture(self):
        picture = Picture(*PARTS)
        for other in (None, 0, True, "", "picture", PARTS, list(PARTS), {}, object(), PARTS[0], mock.sentinel.some):
            self.assertIs(picture == other, False)
            self.assertIs(other == picture, False)
            self.assertIs(picture != other, True)
            self.assertIs(other != picture, True)

    def test_something_with_the_same_parts(self):
        class Other:
            statics, frames, watched, parted, objects = PARTS
        self.assertIs(Picture(*PARTS) == Other(), False)
        self.assertIs(Picture(*PARTS) != Other(), True)


class PictureOfTest(unittest.TestCase):

    def shown(self, standing, wanted):
        for some in (standing, as_lists(standing)):
            before = as_lists(some)
            picture = picture_of(*some)
            self.assertIsInstance(picture, Picture)
            self.assertEqual(parts_of(picture), wanted)
            self.assertEqual(as_lists(some), before)

    def test_nothing(self):
        self.shown(([], [], [], [], []), ((), (), (), (), ()))
        self.shown(((0, 1), (("main", 5, (0,), ()),), (), (), (("box", ()), ("box", ()))),
                   ((0, 1), (("main", 5, (0,), ()),), (), (), ()))

    def test_numbers_are_given_anew_in_all_parts(self):
        objects = (("a", ()), ("b", (14,)), ("c", (2, 3)), ("d", ()), ("e", ()), ("f", ()), ("g", (12,)))
        standing = ((6, 0, -3), (("main", 3, (8, 1), (0, 6)), ("work", 0, (), (4, 4))), (10, 6), (12,), objects)
        wanted = ((2, 0, -3), (("main", 3, (4, 1), (0, 2)), ("work", 0, (), (6, 6))), (8, 2), (10,), (
            ("c", (12, 3)), ("d", ()), ("b", (14,)), ("e", ()), ("f", ()), ("a", ()), ("g", (10,))))
        self.shown(standing, wanted)

    def test_objects_that_are_not_held(self):
        objects = (("a", (4,)), ("b", (2,)), ("c", (8,)), ("d", ()), ("e", (6,)))
        self.shown(((6,), (), (), (), objects), ((2,), (), (), (), (("c", (4,)), ("d", ()))))

    def test_weak_cells_and_pairs_are_shown_as_they_are(self):
        objects = (("look", (4,)), ("tie", (6, 8)), ("box", (1,)), ("box", (3,)))
        self.shown(((), (), (2,), (), objects), ((), (), (2,), (), objects))

    def test_numbers_stay_numbers(self):
        objects = (("sums", (1, 3, -5, 4294967295)),)
        self.shown(((2, 7),  (("main", 0, (9,), (-11,)),), (), (), objects), ((2, 7), (("main", 0, (9,), (-11,)),), (), (), objects))

    def test_a_picture_of_a_picture(self):
        for seed in range(200):
            rows, watched, parted, objects = random_standing(seed)
            frames = [("f" + str(place), place, row, row[:1]) for place, row in enumerate(rows)]
            picture = picture_of(rows[0] if rows else [], frames, watched, parted, objects)
            self.assertEqual(picture_of(*parts_of(picture)), picture)
            self.assertEqual(held_order(picture.rows(), picture.objects), tuple(range(len(picture.objects))))

    def test_other_numbers_give_the_same_picture(self):
        for seed in range(200):
            rows, watched, parted, objects = random_standing(seed)
            frames = [("f", 0, row, row) for row in rows]
            order = list(range(len(objects) + 3))
            random.Random(seed).shuffle(order)

            def renamed(words):
                return [2 * order[word // 2 - 1] + 2 if word % 2 == 0 and word else word for word in words]

            others = [("bare", ())] * len(order)
            for number, (name, payload) in enumerate(objects):
                others[order[number]] = (name, renamed(payload))
            shuffled = [("f", 0, renamed(row), renamed(row)) for row in rows]
            self.assertEqual(picture_of([], frames, watched, parted, objects),
                             picture_of([], shuffled, renamed(watched), renamed(parted), others))

    def test_arguments_may_be_changed_afterwards(self):
        statics, slots, payload = [2], [2, 0], [1, 2]
        picture = picture_of(parted=[], objects=[["box", payload]], statics=statics, watched=[],
                             frames=[["main", 0, slots, []]])
        statics[0], slots[1], payload[0] = 0, 2, 9
        self.assertEqual(parts_of(picture), ((2,), (("main", 0, (2, 0), ()),), (), (), (("box", (1, 2)),)))

    def test_example(self):
        picture = picture_of([6], [("main", 0, [0, 4], [3])], [], [], [("box", [2]), ("box", [6]), ("box", [4])])
        self.assertEqual((picture.statics, picture.frames, picture.objects),
                         ((2,), (("main", 0, (0, 4), (3,)),), (("box", (4,)), ("box", (2,)))))


if __name__ == "__main__":
    unittest.main()
