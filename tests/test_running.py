"""Points 70 and 71: running a machine, and the room for a pace."""

import random
import unittest

from quietbroom.assembler import assemble
from quietbroom.heaps import snapshot
from quietbroom.machine import Machine
from quietbroom.plain import PlainMachine
from quietbroom.running import room_for_pace, run
from tests.alike import DEEDS
from tests.runs import random_run
from tests.test_alike import LISTS

COUNTING = "function main 1 num\nagain:\nload 0\ntell\nload 0\nnum 1\nsub\ncopy\nstore 0\nwhen again\nback\nend"


class Watched(Machine):
    """A machine that writes down what it is asked to do."""

    def __init__(self, *arguments, **more):
        super().__init__(*arguments, **more)
        self.deeds = []

    def advance(self):
        self.deeds.append("advance")
        return super().advance()

    def collect(self):
        self.deeds.append("collect")
        return super().collect()

    def collect_young(self):
        self.deeds.append("young")
        super().collect_young()


class RunTest(unittest.TestCase):

    def machines(self, arguments=(3,)):
        program = assemble(COUNTING)
        return PlainMachine(program, arguments), Machine(program, arguments, capacity=10, nursery=3)

    def test_to_the_end(self):
        for machine in self.machines():
            self.assertEqual(run(machine, fuel=1000), "done")
            self.assertEqual((machine.told, machine.steps), ((3, 2, 1), 25))
            self.assertEqual((run(machine, fuel=5), run(machine, (3, 4), fuel=0), machine.steps), ("done", "done", 25))

    def test_paused(self):
        for machine in self.machines():
            self.assertEqual((run(machine, fuel=0), machine.steps), ("paused", 0))
            for fuel in (1, 2, 3, 4):
                self.assertEqual(run(machine, fuel=fuel), "paused")
            self.assertEqual((machine.steps, machine.outcome), (10, None))
            self.assertEqual((run(machine, fuel=14), run(machine, fuel=1), machine.steps), ("paused", "done", 25))

    def test_just_enough_fuel(self):
        for fuel, outcome in ((24, "paused"), (25, "done"), (26, "done")):
            for machine in self.machines():
                self.assertEqual((run(machine, fuel=fuel), machine.steps), (outcome, min(fuel, 25)))

    def test_traps_and_halt(self):
        for body, outcome, fuel in (("num 1\nnum 0\ndiv\ndrop", "zero", 3), ("halt", "done", 1), ("nil b\nget b x\ndrop", "nil", 2),
                                    ("num 3\narray r\nnum 9\nat r\ndrop", "index", 4), ("call main", "deep", 40),
                                    ("num 1000\narray r\ndrop", "full", 2)):
            program = assemble(f"record b x:num\narray r num\nfunction main 0\n{body}\nback\nend")
            for machine in (PlainMachine(program, limit=50), Machine(program, capacity=50)):
                self.assertEqual((run(machine, [3], fuel=fuel - 1), run(machine, [3], fuel=1)), ("paused", outcome))

    def test_by_name(self):
        for machine in self.machines():
            self.assertEqual(run(machine=machine, schedule=[4], fuel=99), "done")
        with self.assertRaises(TypeError):
            run(self.machines()[0], (), 5)
        with self.assertRaises(TypeError):
            run(self.machines()[0])

    def test_examples(self):
        program = assemble("record box value:num\nweak look box\nfunction main 1\nmake box\nweaken look\nstore 0\nback\nend")
        machine = Machine(program, capacity=5, nursery=3)
        outcome = run(machine, [3, 8, 1], fuel=50)
        self.assertEqual((outcome, machine.steps, machine.settlings, machine.forced, machine.held_words()), ("full", 1, 1, 1, 3))
        program = assemble("record box value:num\nfunction main 0\nmake box\ndrop\nmake box\ndrop\nback\nend")
        machine = Machine(program, capacity=5)
        outcome = run(machine, fuel=9)
        self.assertEqual((outcome, machine.steps, machine.forced, machine.settlings, machine.held_words(), machine.waste()),
                         ("done", 5, 1, 0, 0, 3))
        program = assemble("record box value:num\nweak look box\nfunction main 1\nmake box\nweaken look\nstore 0\nload 0\n"
                           "peek look\nempty box\ntell\nsettle\nload 0\npeek look\nempty box\ntell\nback\nend")
        machine = PlainMachine(program, limit=6)
        self.assertEqual((run(machine, fuel=50), machine.told, machine.steps, machine.settlings, machine.births), ("done", (0, 1), 13, 1, 2))


class ScheduleTest(unittest.TestCase):

    def deeds(self, schedule, fuel, first=0):
        """What a machine is asked to do, told in one word for each deed."""
        machine = Watched(LISTS, [2], capacity=60, nursery=10)
        run(machine, fuel=first)
        del machine.deeds[:]
        self.assertEqual(run(machine, schedule, fuel=fuel), "paused")
        return machine.deeds

    def test_even_and_odd_entries(self):
        for kind in (list, tuple):
            self.assertEqual(self.deeds(kind((0, 1, 2, 3, 6, 7)), 8), [
                "advance", "young", "advance", "collect", "advance", "young", "collect", "advance",
                "collect", "collect", "collect", "advance", "young", "collect", "collect", "collect", "advance",
                "advance", "young", "advance"])

    def test_one_entry(self):
        self.assertEqual(self.deeds([2], 3), ["collect", "advance"] * 3)
        self.assertEqual(self.deeds([200], 2), (["collect"] * 100 + ["advance"]) * 2)
        self.assertEqual(self.deeds([199], 1), ["young"] + ["collect"] * 99 + ["advance"])

    def test_an_empty_schedule(self):
        self.assertEqual((self.deeds([], 3), self.deeds((), 3)), (["advance"] * 3, ["advance"] * 3))

    def test_it_begins_anew_with_each_run(self):
        self.assertEqual(self.deeds([1, 2], 3, 1), ["young", "advance", "collect", "advance", "young", "advance"])

    def test_no_fuel(self):
        self.assertEqual(self.deeds([3], 0), [])

    def test_nothing_is_done_behind_the_end(self):
        machine = Watched(assemble("function main 0\nback\nend"), capacity=9)
        self.assertEqual(run(machine, [2], fuel=50), "done")
        self.assertEqual((machine.deeds, machine.heap.phase), (["collect", "advance"], "marking"))
        self.assertEqual((run(machine, [3], fuel=50), machine.deeds), ("done", ["collect", "advance"]))

    def test_the_schedule_stays(self):
        for schedule in ([3, 1, 4], (3, 1, 4)):
            kept = list(schedule)
            run(Machine(LISTS, [2], capacity=60), schedule, fuel=50)
            self.assertEqual(list(schedule), kept)

    def test_the_plain_machine_does_not_heed_it(self):
        one, two = PlainMachine(LISTS, [2]), PlainMachine(LISTS, [2])
        self.assertEqual(run(one, [3, 200], fuel=60), run(two, fuel=60))
        self.assertEqual((one.picture(), one.steps), (two.picture(), two.steps))

    def test_the_same_by_hand(self):
        schedule = [0, 5, 2, 1, 14]
        one, two = [Machine(LISTS, [3], capacity=60, nursery=12, pace=1) for _ in range(2)]
        self.assertEqual(run(one, schedule, fuel=70), "paused")
        for k in range(70):
            if schedule[k % 5] % 2:
                two.collect_young()
            for _ in range(schedule[k % 5] // 2):
                two.collect()
            two.advance()
        self.assertEqual((snapshot(one.heap), one.picture(), one.root_rows()), (snapshot(two.heap), two.picture(), two.root_rows()))

    def test_any_schedule_tells_the_same(self):
        plain = PlainMachine(LISTS, [4], limit=60)
        wanted = run(plain, fuel=2000)
        for seed in range(30):
            rng = random.Random(seed)
            schedule = [rng.randrange(rng.choice((2, 6, 30, 201))) for _ in range(rng.randrange(9))]
            machine = Machine(LISTS, [4], capacity=60, nursery=rng.randrange(61), pace=rng.randrange(3))
            self.assertEqual(run(machine, schedule, fuel=2000), wanted)
            self.assertEqual((machine.told, machine.steps, machine.settlings, machine.picture()),
                             (plain.told, plain.steps, plain.settlings, plain.picture()))


class RoomForPaceTest(unittest.TestCase):

    def expected(self, held, largest, pace):
        """The definition, by going up."""
        w = 0
        while (2 * pace - 5) * w < 8 + 4 * held + 2 * pace * largest:
            w += 1
        return held + 2 * w

    def test_the_definition(self):
        for pace in (3, 4, 5, 6, 8, 20, 1000):
            for held in (0, 1, 2, 3, 10, 77):
                for largest in (0, 1, 2, 3, 5, 40):
                    self.assertEqual(room_for_pace(held, largest, pace), self.expected(held, largest, pace), (held, largest, pace))

    def test_examples(self):
        self.assertEqual((room_for_pace(20, 5, 3), room_for_pace(20, 5, 8), room_for_pace(0, 0, 3)), (256, 52, 16))

    def test_very_large_integers(self):
        for held, largest, pace in ((10 ** 40, 7, 3), (7, 10 ** 40, 4), (10 ** 40 + 1, 10 ** 39 + 3, 10 ** 38 + 7), (3, 5, 10 ** 50),
                                    (0, 0, 10 ** 30), (10 ** 400, 10 ** 400, 3)):
            room = room_for_pace(held, largest, pace)
            w, rest = divmod(room - held, 2)
            self.assertEqual(rest, 0)
            wanted = 8 + 4 * held + 2 * pace * largest
            self.assertTrue((2 * pace - 5) * (w - 1) < wanted <= (2 * pace - 5) * w)

    def test_by_name(self):
        self.assertEqual(room_for_pace(pace=3, largest=5, held=20), 256)

    def most(self, program, arguments, fuel):
        """The most held words between two instructions of a plain run without a limit, and the largest object."""
        machine, held, largest = PlainMachine(program, arguments), 0, 0
        while True:
            held = max(held, machine.held_words())
            largest = max([largest] + [len(payload) + 2 for _, payload in machine.picture().objects])
            if fuel == 0 or not machine.advance():
                return held, largest
            fuel -= 1

    def test_such_a_machine_is_never_forced(self):
        done = 0
        for seed in range(120):
            rng = random.Random(seed)
            program = LISTS if seed % 5 == 0 else random_run(seed)
            held, largest = self.most(program, [3], 200)
            pace = rng.choice((3, 3, 4, 5, 8, 13))
            capacity = room_for_pace(held, largest, pace)
            nursery = rng.choice((0, 3, capacity // 4, capacity // 2, capacity))
            machine = Machine(program, [3], capacity=capacity, nursery=nursery, pace=pace)
            lazy = rng.choice((0, 0, 1, 2))
            for _ in range(200):
                for _ in range(rng.randrange(lazy + 1)):
                    getattr(machine, rng.choice(DEEDS))()
                if not machine.advance():
                    break
                self.assertEqual((machine.forced, machine.outcome in (None, "done")), (0, True), seed)
            done += machine.steps
        self.assertGreater(done, 5000)

    def test_a_machine_that_makes_much_and_holds_little(self):
        text = ("record node value:num next:node\narray row num\nstatic list node\nfunction main 1 num\nagain:\nmake node\nkeep list\n"
                "num 6\narray row\ndrop\nload 0\nnum 1\nsub\ncopy\nstore 0\nwhen again\nback\nend")
        program = assemble(text)
        held, largest = self.most(program, [5], 200)
        self.assertEqual((held, largest), (12, 8))
        for pace in range(3, 9):
            for nursery in (0, 8, 30):
                machine = Machine(program, [300], capacity=room_for_pace(held, largest, pace), nursery=nursery, pace=pace)
                self.assertEqual((run(machine, fuel=10000), machine.forced), ("done", 0))


if __name__ == "__main__":
    unittest.main()
