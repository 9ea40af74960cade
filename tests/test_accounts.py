"""Point 80: what the objects of a picture take, and what a settling would make of it."""

import random
import unittest

from quietbroom.accounts import account, loose, settled_picture
from quietbroom.assembler import assemble
from quietbroom.heaps import snapshot
from quietbroom.machine import Machine
from quietbroom.pictures import Picture, picture_of
from quietbroom.resuming import resume, resume_plain
from tests.alike import DEEDS
from tests.objects import PROGRAM, naive_settling, naive_strong, random_standing
from tests.runs import random_run

SHAPES = "record box next:box value:num\narray row box\nweak look box\npair tie box box\npair tag box num\nrecord bare\n"
SMALL = assemble(SHAPES + "function main 1\nsettle\nback\nend")


def picture(objects, slot=0, watched=(), parted=()):
    """A picture of SMALL at its settle."""
    return Picture([], [("main", 0, [slot], [])], watched, parted, objects)


class AccountTest(unittest.TestCase):

    def test_every_shape_in_order(self):
        found = account(SMALL, picture([("row", [4, 6, 8]), ("box", [0, 3]), ("box", [4, 1]), ("box", [0, 1]), ("bare", [])], 2, [], [10]))
        self.assertEqual(found, (("box", 3, 12), ("row", 1, 5), ("look", 0, 0), ("tie", 0, 0), ("tag", 0, 0), ("bare", 1, 2)))
        self.assertEqual([type(found), {type(one) for one in found}], [tuple, {tuple}])

    def test_arrays_of_several_lengths(self):
        found = account(SMALL, picture([("row", []), ("row", [0] * 1000), ("row", [0] * 7)], 0, [2, 4, 6]))
        self.assertEqual(found[1], ("row", 3, 2 + 1002 + 9))

    def test_nothing(self):
        self.assertEqual(account(assemble("function main 0\nback\nend"), Picture([], [], [], [], [])), ())
        self.assertEqual(account(SMALL, Picture([], [], [], [], [])),
                         tuple((name, 0, 0) for name in ("box", "row", "look", "tie", "tag", "bare")))

    def test_the_sums_are_the_held_words(self):
        for seed in range(40):
            machine = Machine(random_run(seed), [1], capacity=200, nursery=50)
            for _ in range(60):
                machine.advance()
            found = account(program=machine.program, picture=machine.picture())
            self.assertEqual(sum(words for _, _, words in found), machine.held_words())
            self.assertEqual(sum(count for _, count, _ in found), len(machine.addresses()))


class LooseTest(unittest.TestCase):

    def test_weak_cells(self):
        self.assertEqual(loose(SMALL, picture([("look", [4]), ("box", [0, 1])], 2)), (1,))
        self.assertEqual(loose(SMALL, picture([("row", [4]), ("box", [0, 1]), ("look", [4])], 2, [], [6])), ())

    def test_pairs(self):
        objects = [("tie", [4, 6]), ("box", [0, 1]), ("box", [0, 3])]
        self.assertEqual(loose(SMALL, picture(objects, 2)), (1, 2))
        # The parted list holds the key strongly, the watched list does not.
        self.assertEqual(loose(SMALL, picture_of([], [("main", 0, [2], [])], [], [4], objects)), ())
        self.assertEqual(loose(SMALL, picture_of([], [("main", 0, [2], [])], [4], [], objects)), (1, 2))
        self.assertEqual(loose(SMALL, picture([("tie", [4, 0]), ("box", [0, 1])], 2)), (1,))

    def test_watched_objects(self):
        objects = [("box", [4, 1]), ("box", [0, 1]), ("bare", [])]
        self.assertEqual(loose(SMALL, picture_of([], [("main", 0, [0], [])], [2, 4], [6], objects)), (0, 1))
        self.assertEqual(loose(SMALL, picture_of([], [("main", 0, [4], [])], [2], [], objects)), (1,))

    def test_nothing(self):
        self.assertEqual(loose(SMALL, Picture([], [], [], [], [])), ())

    def test_random_standings(self):
        for seed in range(300):
            rows, watched, parted, objects = random_standing(seed)
            shown = picture_of(rows[0] if rows else [], [("main", 0, row, []) for row in rows[1:]], watched, parted, objects)
            strong = naive_strong(list(shown.rows()[:-2]) + [shown.parted], shown.objects)
            wanted = tuple(number for number in range(len(shown.objects)) if number not in strong)
            self.assertEqual(loose(program=PROGRAM, picture=shown), wanted)


class SettledTest(unittest.TestCase):

    def test_weak_cells_and_pairs(self):
        objects = [("row", [0, 4]), ("box", [0, 5]), ("look", [4]), ("look", [12]), ("tag", [4, 7]), ("box", [0, 1]), ("tag", [12, 9])]
        found = settled_picture(SMALL, picture_of([], [("main", 0, [2], [])], [], [6, 8, 10, 14], objects))
        self.assertEqual(found, Picture([], [("main", 0, [2], [])], [], [4, 6, 8, 10], [
            ("row", [0, 12]), ("look", [12]), ("look", [0]), ("tag", [12, 7]), ("tag", [0, 1]), ("box", [0, 5])]))

    def test_what_is_watched_parts(self):
        objects = [("box", [0, 5]), ("box", [0, 7]), ("box", [0, 9])]
        found = settled_picture(SMALL, picture_of([], [("main", 0, [4], [])], [2, 4, 2, 6], [6], objects))
        self.assertEqual(found, Picture([], [("main", 0, [2], [])], [2, 4], [4, 6, 6], [("box", [0, 7]), ("box", [0, 9]), ("box", [0, 5])]))

    def test_it_is_another_picture(self):
        before = picture([("look", [4]), ("box", [0, 5])], 2)
        found = settled_picture(program=SMALL, picture=before)
        self.assertEqual((before, found), (picture([("look", [4]), ("box", [0, 5])], 2), picture([("look", [0])], 2)))
        self.assertEqual(settled_picture(SMALL, found), found)

    def test_nothing(self):
        empty = Picture([], [], [], [], [])
        self.assertEqual(settled_picture(SMALL, empty), empty)

    def test_random_standings(self):
        for seed in range(300):
            rows, watched, parted, objects = random_standing(seed)
            frames = [("main", 0, row, []) for row in rows[1:]]
            shown = picture_of(rows[0] if rows else [], frames, watched, parted, objects)
            wanted = naive_settling(shown.rows()[:-2], shown.watched, shown.parted, shown.objects)
            self.assertEqual(settled_picture(PROGRAM, shown), picture_of(shown.statics, shown.frames, *wanted))

    def test_against_the_settle_of_both_machines(self):
        done = 0
        for seed in range(80):
            rng = random.Random(seed)
            machine = Machine(random_run(seed), [seed % 3], capacity=200, nursery=rng.choice((0, 20, 200)))
            while machine.steps < 150 and machine.outcome is None:
                frame = machine.picture().frames[-1]
                program = machine.program
                getattr(machine, rng.choice(DEEDS))()
                before = machine.picture()
                machine.advance()
                if program.function(frame[0]).body[frame[1]] == ("settle",):
                    done += 1
                    wanted = settled_picture(program, before)
                    self.assertEqual((machine.picture().statics, machine.picture().watched, machine.picture().parted, machine.picture().objects),
                                     (wanted.statics, wanted.watched, wanted.parted, wanted.objects))
                    for other in (resume(program, before, capacity=200), resume_plain(program, before)):
                        other.advance()
                        self.assertEqual((other.settlings, other.picture()), (1, machine.picture()))
        self.assertGreater(done, 60)

    def test_behind_a_settling_nothing_is_loose(self):
        for seed in range(100):
            rows, watched, parted, objects = random_standing(seed)
            shown = picture_of([], [("main", 0, row, []) for row in rows], watched, parted, objects)
            settled = settled_picture(PROGRAM, shown)
            self.assertEqual(loose(PROGRAM, settled), ())
            self.assertEqual(settled_picture(PROGRAM, settled), settled)

    def test_example(self):
        program = assemble("record box value:num\nweak look box\nfunction main 1\nback\nend")
        shown = Picture([], [("main", 0, [2], [])], [], [], [("look", [4]), ("box", [15])])
        self.assertEqual((account(program, shown), loose(program, shown), settled_picture(program, shown).objects), (
            (("box", 1, 3), ("look", 1, 3)), (1,), (("look", (0,)),)))


class WasteTest(unittest.TestCase):

    def test_behind_a_whole_cycle(self):
        for seed in range(60):
            rng = random.Random(seed)
            machine = Machine(random_run(seed), [1], capacity=120, nursery=rng.choice((0, 9, 120)))
            for _ in range(rng.randrange(80)):
                getattr(machine, rng.choice(DEEDS))()
                machine.advance()
                self.assertEqual(machine.waste(), machine.heap.used() - machine.held_words())
                self.assertGreaterEqual(machine.waste(), 0)
            before = snapshot(machine.heap)
            machine.waste()
            self.assertEqual(snapshot(machine.heap), before)
            machine.collect_all()
            self.assertEqual((machine.waste(), machine.heap.used()), (0, machine.held_words()))


if __name__ == "__main__":
    unittest.main()
