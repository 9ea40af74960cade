"""Point 66: how the real machine seeks room, step by step."""

import copy
import random
import unittest

from quietbroom.barriers import write_word
from quietbroom.cycle import collect, collect_all, finish
from quietbroom.heaps import snapshot
from quietbroom.machine import Machine
from quietbroom.placing import place_block
from quietbroom.settling import heap_settling
from tests.alike import DEEDS
from tests.rules import check_memory
from tests.runs import random_run
from tests.test_machine import program_of


class Seeker:
    """Seeks room in a copy of a machine's memory, as the point says it, and places the object there."""

    def __init__(self, machine):
        self.machine = copy.deepcopy(machine)
        self.heap = self.machine.heap
        self.forced, self.settlings, self.told = machine.forced, machine.settlings, []

    def rows(self):
        return self.machine.standing.rows()

    def made(self):
        """(shape name, length, operands) if the next instruction makes an object and traps for no other reason."""
        if self.machine.outcome is not None:
            return None
        frame = self.machine.standing.frames[-1]
        word, *operands = frame.function.body[frame.place]
        if word == "make":
            return operands[0], len(self.machine.program.shape(operands[0]).fields), []
        if word == "array" and 0 <= frame.stack[-1] // 2 <= 1000:
            return operands[0], frame.stack[-1] // 2, []
        count = {"weaken": 1, "pair": 2}.get(word)
        if count and frame.stack[-count] != 0:
            return operands[0], count, [len(frame.stack) - count + at for at in range(count)]
        return None

    def full(self, size):
        return self.heap.used() + size > self.heap.capacity

    def seek(self, size):
        """Whether there is room."""
        for _ in range(self.machine.pace * size):
            collect(self.heap, self.rows())
        for what in ("forced", "all", "settling"):
            if not self.full(size):
                return True
            self.told.append(what)
            if what == "forced":
                self.forced += 1
                finish(self.heap, self.rows())
            elif what == "all":
                collect_all(self.heap, self.rows())
            else:
                standing = self.machine.standing
                heap_settling(self.heap, self.machine.program, self.rows()[:-2], standing.watched, standing.parted)
                self.settlings += 1
                collect_all(self.heap, self.rows())
        if self.full(size):
            self.told.append("full")
        return not self.full(size)

    def make(self):
        """Seeks room for what the next instruction makes, and places it; None if it makes nothing."""
        made = self.made()
        if made is None:
            return None
        name, length, operands = made
        if not self.seek(length + 2):
            return False
        program, frame = self.machine.program, self.machine.standing.frames[-1]
        blank = program.shape(name).blank(length)
        address = place_block(self.heap, self.rows(), program.shape_number(name), blank)
        for place, at in enumerate(operands):
            write_word(self.heap, address, place, frame.stack[at])
        self.address = address
        return True


def advanced(case, machine, told):
    """Advances a machine, and compares its memory with what the point says; whether it goes on."""
    seeker = Seeker(machine)
    made = seeker.make()
    result = machine.advance()
    if made is not None:
        case.assertEqual(snapshot(machine.heap), snapshot(seeker.heap))
        case.assertEqual((machine.forced, machine.settlings), (seeker.forced, seeker.settlings))
        case.assertEqual(machine.outcome, None if made else "full")
        if made:
            case.assertEqual(machine.root_rows()[-3][-1], 2 * seeker.address)
        else:
            case.assertEqual(machine.root_rows(), tuple(tuple(row) for row in seeker.rows()))
        told.append(tuple(seeker.told))
    return result


class RoomTest(unittest.TestCase):

    def run_through(self, body, **more):
        """What the search for room did for each object in turn, and the machine."""
        machine, told = Machine(program_of(body), **more), []
        while advanced(self, machine, told):
            check_memory(machine.heap, machine.root_rows())
        return told, machine

    def test_room_at_once(self):
        for nursery in (0, 4, 12):
            told, machine = self.run_through("make b;store 0;make b;store 1;make b;drop;halt", capacity=12, nursery=nursery)
            self.assertEqual((told, machine.forced, machine.heap.phase), ([()] * 3, 0, "idle"))

    def test_one_word_too_few(self):
        told, machine = self.run_through("make b;store 0;make b;store 1;make b;drop;halt", capacity=11)
        self.assertEqual(told, [(), (), ("forced", "all", "settling", "full")])
        self.assertEqual((machine.outcome, machine.forced, machine.settlings), ("full", 1, 1))

    def test_finish_is_enough(self):
        # A cycle is under way whose marking has not seen that the first object is no longer held.
        machine, told = Machine(program_of("make b;drop;make b;store 0;make b;halt"), capacity=8), []
        for _ in range(4):
            advanced(self, machine, told)
        machine.collect()
        advanced(self, machine, told)
        self.assertEqual((told, machine.forced, machine.heap.phase), ([(), (), ("forced",)], 1, "idle"))

    def test_finish_is_not_enough(self):
        # The cycle that is under way keeps what was held when it began.
        machine, told = Machine(program_of("make b;store 0;make b;store 0;make b;store 0;halt"), capacity=8), []
        for _ in range(3):
            advanced(self, machine, told)
        for _ in range(3):
            machine.collect()
        while advanced(self, machine, told):
            pass
        self.assertEqual((told, machine.forced), ([(), (), ("forced", "all")], 1))

    def test_nothing_to_finish(self):
        told, machine = self.run_through("make b;drop;make b;drop;make b;drop;halt", capacity=8)
        self.assertEqual((told, machine.forced), ([(), (), ("forced", "all")], 1))

    def test_a_settling_is_enough(self):
        body = "make b;make b;pair p;store 0;make b;store 1;load 0;key p;empty b;tell;halt"
        for capacity, last in ((16, ()), (15, ("forced", "all", "settling")), (12, ("forced", "all", "settling")),
                               (11, ("forced", "all", "settling", "full"))):
            told, machine = self.run_through(body, capacity=capacity)
            self.assertEqual((told[-1], machine.settlings), (last, 1 if "settling" in last else 0))
            self.assertEqual(machine.outcome, "full" if "full" in last else "done")

    def test_behind_a_settling_all_is_collected(self):
        told, machine = self.run_through("make b;make b;pair p;store 0;make b;store 1;halt", capacity=12)
        self.assertEqual((machine.heap.used(), machine.waste(), machine.heap.phase), (8, 0, "idle"))

    def test_full_in_its_whole(self):
        told, machine = self.run_through("make b;num 5;pair q;store 0;make b;watch b;num 20;array n;drop;halt", capacity=25)
        self.assertEqual((machine.outcome, machine.forced, machine.settlings, machine.steps), ("full", 1, 1, 7))
        self.assertEqual((machine.heap.used(), machine.held_words(), machine.waste(), machine.heap.phase), (8, 8, 0, "idle"))

    def test_the_pace(self):
        # A blank machine: the four steps of an empty cycle come again and again.
        phases = ("idle", "marking", "moving", "updating")
        for pace, nursery in ((pace, nursery) for pace in range(9) for nursery in (0, 9)):
            for body, size in (("make b;drop", 4), ("make none;drop", 2), ("num 5;array n;drop", 7), ("num 0;array r;drop", 2)):
                machine, told = Machine(program_of(body), capacity=9, nursery=nursery, pace=pace), []
                while not told:
                    advanced(self, machine, told)
                self.assertEqual(machine.heap.phase, phases[pace * size % 4])

    def test_the_pace_is_kept_also_where_there_is_room(self):
        told, machine = self.run_through("make b;store 0;make b;store 1;halt", capacity=100, pace=1)
        self.assertEqual((told, machine.heap.phase), ([(), ()], "moving"))

    def test_the_pace_may_make_room(self):
        told, machine = self.run_through("make b;drop;make b;drop;make b;drop;halt", capacity=8, pace=3)
        self.assertEqual((told, machine.forced), ([(), (), ()], 0))

    def test_a_pace_that_needs_many_steps(self):
        told, machine = self.run_through("num 1000;array n;store 0;make b;drop;halt", capacity=1100, pace=100)
        self.assertEqual((told, machine.forced), ([(), ()], 0))

    def test_other_instructions_and_traps_seek_no_room(self):
        for body in ("nil b;weaken w;drop", "nil b;num 3;pair q;drop", "num 1001;array n;drop", "num -1;array r;drop", "num 1;tell;settle"):
            machine, told = Machine(program_of(body), capacity=0, pace=5), []
            while advanced(self, machine, told):
                pass
            self.assertEqual((told, machine.forced, machine.heap.phase), ([], 0, "idle"))

    def test_forced_counts_searches(self):
        body = "num 20;store 0;a:;make b;drop;load 0;num 1;sub;copy;store 0;when a"
        told, machine = self.run_through(body, capacity=4)
        self.assertEqual((len(told), machine.forced, machine.outcome), (20, 19, "done"))
        told, machine = self.run_through(body, capacity=3)
        self.assertEqual((told, machine.forced), ([("forced", "all", "settling", "full")], 1))

    def test_a_capacity_of_nothing(self):
        told, machine = self.run_through("make none;drop", capacity=0)
        self.assertEqual((told, machine.outcome), ([("forced", "all", "settling", "full")], "full"))
        told, machine = self.run_through("make none;drop", capacity=2)
        self.assertEqual((told, machine.outcome), ([()], "done"))

    def test_the_operands_are_held_while_room_is_sought(self):
        for steps in range(12):
            machine, told = Machine(program_of("make b;copy;num 3;put b value;make b;pair p;key p;get b value;tell"), capacity=12, nursery=5), []
            for _ in range(5):
                advanced(self, machine, told)
            for _ in range(steps):
                machine.collect()
            while advanced(self, machine, told):
                pass
            self.assertEqual((machine.outcome, machine.told), ("done", (3,)))


class RandomTest(unittest.TestCase):

    def test_random_runs(self):
        kinds = {}
        for seed in range(60):
            rng = random.Random(seed)
            capacity = rng.choice((20, 40, 80, 150))
            nursery = rng.choice((0, 4, 9, capacity // 2, capacity))
            machine, told = Machine(random_run(seed), [seed % 3], capacity=capacity, nursery=nursery, pace=rng.randrange(4)), []
            for _ in range(150):
                for _ in range(rng.randrange(3)):
                    getattr(machine, rng.choice(DEEDS))()
                if not advanced(self, machine, told):
                    break
            for what in told:
                kinds[what] = kinds.get(what, 0) + 1
        self.assertEqual(set(kinds), {(), ("forced",), ("forced", "all"), ("forced", "all", "settling"),
                                      ("forced", "all", "settling", "full")})


if __name__ == "__main__":
    unittest.main()
