"""Point 75: machines whose run goes on from a picture."""

import inspect
import random
import unittest

from quietbroom.assembler import assemble
from quietbroom.errors import BadPicture, NoRoom, QuietError, Refused
from quietbroom.fitting import picture_fault
from quietbroom.heaps import Heap, blocks, snapshot
from quietbroom.images import read_image, write_image
from quietbroom.machine import Machine
from quietbroom.pictures import Picture
from quietbroom.plain import PlainMachine
from quietbroom.resuming import resume, resume_plain
from tests.alike import DEEDS
from tests.rules import check_memory
from tests.runs import random_run
from tests.test_alike import LISTS

SHAPES = "record box value:num next:box\narray row box\nweak look box\npair tie box num\n"
STATICS = "static s box\nstatic n num\n"
PROGRAM = assemble(SHAPES + STATICS + "function main 2 num num\ncall work\ntell\nback\nend\nfunction work 1 -> num\nnil row\nstore 0\n"
                   "fetch s\nget box value\nback\nend")
PICTURE = Picture([2, 9], [("main", 1, [3, -5], []), ("work", 2, [4], [])], [4, 4], [6],
                  [("box", [15, 8]), ("row", [2, 0, 2]), ("look", [2]), ("box", [1, 2])])
WORDS = 4 + 5 + 3 + 4


class ResumeTest(unittest.TestCase):

    def test_the_memory(self):
        machine = resume(PROGRAM, PICTURE, capacity=30, nursery=7, pace=3)
        self.assertIs(type(machine), Machine)
        heap = machine.heap
        self.assertEqual((heap.capacity, heap.nursery, machine.pace, heap.used()), (30, 7, 3, WORDS))
        self.assertEqual(snapshot(heap)[:10], ("idle", 1, 8, 8 + WORDS, 38, 38, 0, (), (), 0))
        self.assertEqual(blocks(heap, 8, heap.top), ((8, 0, 2, 0, 0, 0), (12, 1, 3, 0, 0, 0), (17, 2, 1, 0, 0, 0), (20, 0, 2, 0, 0, 0)))
        self.assertEqual(heap.words, [0] * 8 + [128, 0, 15, 40, 193, 0, 16, 0, 16, 66, 0, 16, 128, 0, 1, 16] + [0] * 44)
        self.assertEqual((machine.addresses(), machine.waste(), machine.held_words()), ((8, 12, 17, 20), 0, WORDS))
        self.assertEqual(machine.root_rows(), ((16, 9), (3, -5), (), (24,), (), (24, 24), (34,)))
        check_memory(heap, machine.root_rows())

    def test_the_standing(self):
        for machine in (resume(PROGRAM, PICTURE, capacity=30), resume_plain(PROGRAM, PICTURE), resume_plain(PROGRAM, PICTURE, limit=16)):
            self.assertEqual(machine.picture(), PICTURE)
            self.assertEqual((machine.told, machine.outcome, machine.steps, machine.settlings), ((), None, 0, 0))

    def test_the_plain_machine(self):
        machine = resume_plain(PROGRAM, PICTURE, limit=20)
        self.assertIs(type(machine), PlainMachine)
        self.assertEqual((machine.limit, machine.births, machine.birth_numbers(), machine.held_words()), (20, 4, (0, 1, 2, 3), WORDS))
        self.assertIsNone(resume_plain(PROGRAM, PICTURE).limit)

    def test_the_machine(self):
        machine = resume(PROGRAM, PICTURE, capacity=30)
        self.assertEqual((machine.forced, machine.pace, machine.heap.nursery, machine.heap.capacity), (0, 0, 0, 30))

    def test_births_go_on(self):
        program = assemble("record box value:num\nfunction main 1\nmake box\nstore 0\nback\nend")
        machine = resume_plain(program, Picture([], [("main", 0, [2], [])], [2], [], [("box", [1])]))
        machine.advance()
        self.assertEqual((machine.births, machine.birth_numbers()), (2, (0, 1)))

    def test_the_entry_may_have_parameters(self):
        for machine in (resume(PROGRAM, PICTURE, capacity=30), resume_plain(PROGRAM, PICTURE)):
            while machine.advance():
                pass
            self.assertEqual((machine.told, machine.outcome, machine.steps), ((7,), "done", 5))

    def test_without_a_frame(self):
        picture = Picture([2, 9], [], [2], [], [("box", [1, 2])])
        for machine in (resume(PROGRAM, picture, capacity=4), resume_plain(PROGRAM, picture), resume_plain(PROGRAM, picture, limit=4)):
            self.assertEqual((machine.outcome, machine.picture(), machine.advance(), machine.steps), ("done", picture, False, 0))
            self.assertEqual((machine.held_words(), machine.told), (4, ()))

    def test_without_objects(self):
        picture = Picture([0, 1], [("main", 0, [1, 1], [])], [], [], [])
        machine = resume(PROGRAM, picture, capacity=0)
        self.assertEqual((snapshot(machine.heap), machine.picture()), (snapshot(Heap(0, 0)), picture))
        self.assertEqual((resume_plain(PROGRAM, picture, limit=0).births, resume_plain(PROGRAM, picture).picture()), (0, picture))

    def test_the_picture_is_not_changed(self):
        for machine in (resume(PROGRAM, PICTURE, capacity=30), resume_plain(PROGRAM, PICTURE)):
            kept = (PICTURE.statics, PICTURE.frames, PICTURE.watched, PICTURE.parted, PICTURE.objects)
            while machine.advance():
                pass
            self.assertEqual((PICTURE.statics, PICTURE.frames, PICTURE.watched, PICTURE.parted, PICTURE.objects), kept)

    def test_parameters(self):
        empty = inspect.Parameter.empty
        for some, wanted in ((resume, [("program", empty), ("picture", empty), ("capacity", empty), ("nursery", 0), ("pace", 0)]),
                             (resume_plain, [("program", empty), ("picture", empty), ("limit", None)])):
            parameters = inspect.signature(some).parameters.values()
            self.assertEqual([(one.name, one.default) for one in parameters], wanted)
            self.assertEqual([one.kind.name == "KEYWORD_ONLY" for one in parameters], [False] * 2 + [True] * (len(wanted) - 2))
        self.assertEqual(resume(picture=PICTURE, capacity=16, program=PROGRAM).held_words(), WORDS)

    def test_example(self):
        program = assemble("record box value:num\nstatic s box\nfunction main 0\ncall work\nback\nend\n"
                           "function work 1\nnum 1\nstore 0\nback\nend")
        picture = Picture([2], [("main", 1, [], []), ("work", 1, [0], [3])], [], [], [("box", [7])])
        machine = resume(program, picture, capacity=5, nursery=2)
        self.assertEqual((machine.addresses(), machine.heap.words[:7], machine.heap.top, machine.root_rows()), (
            (3,), [0, 0, 0, 64, 0, 7, 0], 6, ((6,), (), (), (0,), (3,), (), ())))
        program = assemble("record box value:num\nweak look box\nfunction main 1\nback\nend")
        machine = resume(program, Picture([], [("main", 0, [2], [])], [], [], [("look", [4]), ("box", [15])]), capacity=9)
        self.assertEqual((machine.waste(), machine.heap.used(), machine.held_words()), (0, 6, 6))


class ErrorsTest(unittest.TestCase):

    REFUSED = assemble("record box value:num\nfunction main 0\nback\nend\nfunction work 1\nload 0\ndrop\nback\nend")
    BAD = Picture([1, 2, 3], [("x", 1, [], [])], [], [], [("box", [1, 0])])
    LARGE = Picture([2, 1], [], [], [], [("box", [1, 0])])

    def both(self, program, picture, room, wrong):
        """The errors of both functions."""
        for some, more in ((resume, {"capacity": room}), (resume, {"capacity": room, "nursery": 0, "pace": 2}),
                           (resume_plain, {"limit": room})):
            with self.assertRaises(wrong) as caught:
                some(program, picture, **more)
            self.assertIsInstance(caught.exception, QuietError)
            yield caught.exception

    def test_refused(self):
        for picture in (PICTURE, self.BAD, self.LARGE, Picture([], [], [], [], [])):
            for error in self.both(self.REFUSED, picture, 0, Refused):
                self.assertEqual((error.number, error.why, error.walk, error.other), (1, "unset", (0,), ()))
        with self.assertRaises(Refused):
            resume_plain(self.REFUSED, self.BAD)

    def test_bad_picture(self):
        for room in (0, 3, 50):
            for error in self.both(PROGRAM, self.BAD, room, BadPicture):
                self.assertEqual((error.part, error.number, error.why), ("static", 0, "count"))
        with self.assertRaises(BadPicture):
            resume_plain(PROGRAM, self.BAD)
        for picture in (Picture([2, 0], [], [], [], []), Picture([0, 1], [("main", 1, [1, 1], [])], [], [], []),
                        Picture([0, 1], [], [0], [], []), Picture([0, 1], [], [], [], [("box", [1, 0])])):
            fault = picture_fault(PROGRAM, picture)
            self.assertIsNotNone(fault)
            for error in self.both(PROGRAM, picture, 20, BadPicture):
                self.assertEqual((error.part, error.number, error.why), fault)

    def test_no_room(self):
        for room in (0, 1, 3):
            for error in self.both(PROGRAM, self.LARGE, room, NoRoom):
                self.assertEqual(error.words, 4)
        for error in self.both(PROGRAM, PICTURE, WORDS - 1, NoRoom):
            self.assertEqual(error.words, WORDS)
        self.assertEqual(resume(PROGRAM, PICTURE, capacity=WORDS).heap.used(), WORDS)
        self.assertEqual(resume(PROGRAM, PICTURE, capacity=WORDS, nursery=WORDS).heap.used(), WORDS)
        self.assertEqual(resume_plain(PROGRAM, PICTURE, limit=WORDS).held_words(), WORDS)

    def test_an_object_of_a_thousand_items(self):
        program = assemble("array nums num\nstatic n nums\nfunction main 0\nback\nend")
        picture = Picture([2], [], [], [], [("nums", [5] * 1000)])
        for error in self.both(program, picture, 1001, NoRoom):
            self.assertEqual(error.words, 1002)
        self.assertEqual(resume(program, picture, capacity=1002).picture(), picture)


class GoesOnTest(unittest.TestCase):
    """A run that is resumed goes on as the one whose picture it was."""

    def follow(self, machine, others, fuel, rng):
        """Advances them side by side; their pictures and what they tell stay the same."""
        told, steps, settlings = len(machine.told), machine.steps, machine.settlings
        for _ in range(fuel):
            result = machine.advance()
            for other in others:
                if isinstance(other, Machine) and rng.randrange(3) == 0:
                    getattr(other, rng.choice(DEEDS))()
                self.assertIs(other.advance(), result)
                self.assertEqual((other.told, other.steps, other.settlings, other.outcome), (
                    machine.told[told:], machine.steps - steps, machine.settlings - settlings, machine.outcome))
                self.assertEqual(other.held_words(), machine.held_words())
            if not result:
                break
        for other in others:
            self.assertEqual(other.picture(), machine.picture())

    def test_lists(self):
        for capacity in (34, 60, 90):
            rng = random.Random(capacity)
            machine = Machine(LISTS, [4], capacity=capacity, nursery=capacity // 2, pace=1)
            while machine.outcome is None:
                for _ in range(7):
                    machine.collect()
                    machine.advance()
                picture = machine.picture()
                limited = PlainMachine(LISTS, [4], limit=capacity)
                for _ in range(machine.steps):
                    limited.advance()
                if machine.outcome is None:
                    self.follow(limited, [resume(LISTS, picture, capacity=capacity, nursery=3), resume_plain(LISTS, picture, limit=capacity)], 500, rng)

    def test_random_runs(self):
        resumed = 0
        for seed in range(120):
            rng = random.Random(seed)
            program, capacity = random_run(seed), rng.choice((20, 40, 90, 200))
            nursery = rng.choice((0, 4, capacity // 2))
            machine = Machine(program, [seed % 3], capacity=capacity, nursery=nursery, pace=rng.randrange(3))
            for _ in range(rng.randrange(1, 5)):
                for _ in range(rng.randrange(30)):
                    for _ in range(rng.randrange(3)):
                        getattr(machine, rng.choice(DEEDS))()
                    machine.advance()
                picture = machine.picture()
                self.assertIsNone(picture_fault(program, picture))
                self.assertEqual(read_image(write_image(picture)), picture)
                one = resume(program, picture, capacity=capacity, nursery=rng.choice((0, 4, capacity)), pace=rng.randrange(3))
                two = resume_plain(program, picture, limit=capacity)
                check_memory(one.heap, one.root_rows())
                self.assertEqual((one.picture(), two.picture(), one.heap.used()), (picture, picture, machine.held_words()))
                if machine.outcome is None:
                    self.follow(machine, [one, two], 20, rng)
                    check_memory(one.heap, one.root_rows())
                    resumed += 1
        self.assertGreater(resumed, 120)

    def test_a_run_that_has_ended_by_a_trap_comes_there_again(self):
        for body, outcome in (("nil box\nget box value\ntell", "nil"), ("num 1\nnum 0\ndiv\ntell", "zero"), ("halt", "done"),
                              ("num 7\narray row\nnum 9\nat row\ndrop", "index"), ("call main", "deep"), ("num 50\narray row\ndrop", "full")):
            program = assemble(f"{SHAPES}{STATICS}function main 0\nmake box\nkeep s\n{body}\nback\nend")
            machine = Machine(program, capacity=45)
            while machine.advance():
                pass
            self.assertEqual(machine.outcome, outcome)
            for other in (resume(program, machine.picture(), capacity=45), resume_plain(program, machine.picture(), limit=45)):
                self.assertEqual((other.outcome, other.advance(), other.outcome, other.steps), (None, False, outcome, 0))
                self.assertEqual(other.picture(), machine.picture())

    def test_an_unlimited_machine_goes_on_where_a_full_one_ended(self):
        program = assemble(f"{SHAPES}{STATICS}function main 0\nmake box\nkeep s\nnum 50\narray row\ndrop\nnum 3\ntell\nback\nend")
        machine = Machine(program, capacity=45)
        while machine.advance():
            pass
        other = resume_plain(program, machine.picture())
        while other.advance():
            pass
        self.assertEqual((machine.outcome, other.outcome, other.told, other.births), ("full", "done", (3,), 2))


if __name__ == "__main__":
    unittest.main()
