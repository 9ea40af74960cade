"""Points 65, 67 and 80: the real machine, its instructions, and what can be called between them."""

import copy
import inspect
import itertools
import unittest

from quietbroom.assembler import assemble
from quietbroom.errors import BadArguments, QuietError, Refused
from quietbroom.heaps import Heap, blocks, snapshot
from quietbroom.machine import Machine
from quietbroom.operations import OPERATIONS
from quietbroom.pictures import Picture
from tests.alike import Both
from tests.memory import payload
from tests.test_plain import main
from tests.test_plain_objects import HEAD

LOW, HIGH = -2147483648, 2147483647

# What each operation does, at its edges too; the traps stand last in each row.
BODIES = (
    "num 7;num -3;add;tell;num 7;num -3;sub;tell;num 65536;num 65536;mul;tell;num 2147483647;num 1;add;tell",
    "num 7;num -2;div;tell;num 7;num -2;mod;tell;num -2147483648;num -1;div;tell;num 7;num 0;div;tell",
    "num 3;num 0;mod;tell",
    "num 1;num 2;less;tell;num 2;num 1;less;tell;num 2;num 2;same;tell;num 0;flip;tell;num 5;flip;tell",
    "num 1;copy;add;tell;num 1;num 2;swap;tell;tell;num 3;drop;make b;drop;make b;num 4;swap;drop;tell",
    "num 5;store 0;load 0;tell;make b;store 0;load 0;load 0;twin b;tell;make b;keep s;fetch s;empty b;tell",
    "jump on;num 1;tell;on:;num 1;when off;num 2;tell;off:;num 0;when on;num 3;tell",
    "num 6;store 0;again:;make b;store 1;load 0;num 1;sub;copy;store 0;when again;load 0;tell",
    "make b;store 0;load 0;call work;get b next;load 0;twin b;tell;num 3;call deep",
    "nil b;empty b;tell;make b;empty b;tell;nil b;nil b;twin b;tell;nil b;make b;twin b;tell",
    "make b;copy;twin b;tell;make b;make b;twin b;tell;make none;make none;twin none;tell",
    "make b;store 0;load 0;num 9;put b value;load 0;get b value;tell;load 0;load 0;put b next;load 0;get b next;get b value;tell",
    "make b;store 0;load 0;nil b;put b next;load 0;get b next;get b value;tell",
    "nil b;num 1;put b value", "nil b;get b value;tell", "nil b;nil b;put b next",
    "num 3;array n;store 0;load 0;num 2;num 9;set n;load 0;num 2;at n;tell;load 0;length n;tell;load 0;num 3;at n;tell",
    "num 2;array r;store 0;load 0;num 1;make b;set r;load 0;num 1;at r;empty b;tell;load 0;num 0;at r;empty b;tell",
    "num 0;array r;length r;tell;num 1000;array n;length n;tell;num 1001;array n;drop",
    "num -1;array r;drop", "num 2;array n;num -1;num 0;set n", "nil r;num 0;at r;drop", "nil n;length n;tell",
    "nil n;num -5;num 0;set n",
    "make b;store 0;load 0;weaken w;store 1;load 1;peek w;load 0;twin b;tell;settle;load 1;peek w;empty b;tell",
    "make b;weaken w;store 1;settle;load 1;peek w;empty b;tell;nil b;weaken w;drop", "nil w;peek w;drop",
    "make b;store 0;load 0;make b;pair p;store 1;settle;load 1;key p;load 0;twin b;tell;load 1;value p;empty b;tell",
    "make b;make b;pair p;store 1;settle;load 1;key p;empty b;tell;load 1;value p;empty b;tell",
    "make b;num 8;pair q;store 1;load 1;value q;tell;settle;load 1;value q;tell;load 1;key q;empty b;tell",
    "make b;nil b;pair p;value p;empty b;tell;nil b;make b;pair p;drop", "nil p;key p;drop", "nil q;value q;tell",
    "make b;watch b;make b;copy;store 0;watch b;settle;parted b;empty b;tell;parted b;empty b;tell;parted none;empty none;tell",
    "make none;watch none;make b;watch b;settle;parted b;get b value;tell;parted none;empty none;tell", "nil b;watch b",
    "make b;copy;watch b;copy;watch b;drop;settle;parted b;parted b;twin b;tell;parted b;empty b;tell",
    "num 4;tell;halt;num 5;tell", "call main", "make b;call work;drop;make b;watch b;settle;call main",
)
TAIL = ("\nfunction work 2 b -> b\nmake b\nstore 1\nload 1\nload 0\nput b next\nload 1\nback\nend"
        "\nfunction deep 1 num\nload 0\ntell\nmake b\nstore 0\nnum 1\ncall deep\nback\nend")


def program_of(body):
    """The program whose entry consists of these instructions and a back."""
    return assemble(main(body + ";back", 2, HEAD) + TAIL)


class StartTest(unittest.TestCase):

    TWO = "function main 3 num num\nload 0\ntell\nload 1\ntell\nback\nend"
    WRONG = "function main 1 num\ntell\nend"

    def test_everything_in_the_beginning(self):
        text = ("record box value:num\narray row box\nstatic a num\nstatic b box\nstatic c row\nstatic d num\n"
                "function main 4 num num\nback\nend\nfunction work 0\nback\nend")
        machine = Machine(assemble(text), [5, -6], capacity=30, nursery=7, pace=2)
        self.assertEqual(machine.root_rows(), ((1, 0, 0, 1), (11, -11, 0, 0), (), (), ()))
        self.assertEqual(machine.picture(), Picture([1, 0, 0, 1], [("main", 0, (11, -11, 0, 0), ())], [], [], []))
        self.assertEqual((machine.told, machine.outcome, machine.steps, machine.settlings, machine.forced), ((), None, 0, 0, 0))
        self.assertEqual((machine.addresses(), machine.held_words(), machine.waste(), machine.pace), ((), 0, 0, 2))
        self.assertIs(type(machine.heap), Heap)
        self.assertEqual((machine.heap.capacity, machine.heap.nursery), (30, 7))
        self.assertEqual(snapshot(machine.heap), snapshot(Heap(30, 7)))

    def test_attributes_are_set_when_the_machine_is_made(self):
        machine = Machine(assemble(main("back")), capacity=0)
        for name in ("told", "outcome", "steps", "settlings", "heap", "pace", "forced"):
            self.assertIn(name, vars(machine))
        self.assertEqual((machine.heap.capacity, machine.heap.nursery, machine.pace), (0, 0, 0))

    def test_parameters(self):
        parameters = inspect.signature(Machine).parameters.values()
        self.assertEqual([(one.name, one.kind.name, one.default) for one in parameters], [
            ("program", "POSITIONAL_OR_KEYWORD", inspect.Parameter.empty), ("arguments", "POSITIONAL_OR_KEYWORD", ()),
            ("capacity", "KEYWORD_ONLY", inspect.Parameter.empty), ("nursery", "KEYWORD_ONLY", 0), ("pace", "KEYWORD_ONLY", 0)])
        machine = Machine(arguments=[3, 4], pace=1, nursery=2, capacity=9, program=assemble(self.TWO))
        self.assertEqual((machine.pace, machine.heap.capacity, machine.heap.nursery), (1, 9, 2))

    def test_arguments(self):
        program = assemble(self.TWO)
        for arguments in ((0, 0), [1, -1], (LOW, HIGH), [HIGH, LOW]):
            both = Both(program, arguments, capacity=0)
            self.assertEqual((both.run(), both.real.told), ("done", tuple(arguments)))

    def test_arguments_may_be_changed_afterwards(self):
        arguments = [3, 4]
        machine = Machine(assemble(self.TWO), arguments, capacity=5)
        arguments[0] = 9
        self.assertEqual(machine.root_rows()[1], (7, 9, 0))

    def test_bad_arguments(self):
        program = assemble(self.TWO)
        for wrong in ((), [1], [1, 2, 3], [True, 1], [1, False], (None, 1), ["1", 1], [1, HIGH + 1], (LOW - 1, 0), [1, 1.0], [1, ()]):
            with self.assertRaises(BadArguments) as caught:
                Machine(program, wrong, capacity=9)
            self.assertEqual(vars(caught.exception), {})
            self.assertIsInstance(caught.exception, QuietError)
        with self.assertRaises(BadArguments):
            Machine(assemble(main("back")), [0], capacity=9)

    def test_refused_comes_first(self):
        for arguments in ((), (1,), (True,), ["x"]):
            with self.assertRaises(Refused) as caught:
                Machine(assemble(self.WRONG), arguments, capacity=9)
            error = caught.exception
            self.assertEqual((error.number, error.why, error.walk, error.other), (0, "end", (0,), ()))


class InstructionsTest(unittest.TestCase):

    def test_every_operation_has_its_turn(self):
        words = {row.split()[0] for body in BODIES for row in (body + ";back" + TAIL.replace("\n", ";")).split(";") if row}
        self.assertLessEqual(set(OPERATIONS), words)

    def test_as_in_the_plain_machine(self):
        outcomes = set()
        for number, body in enumerate(BODIES):
            for nursery, pace, seed in ((0, 0, None), (0, 0, 1), (4, 1, 2), (9, 3, 3), (1100, 0, 4), (1100, 2, None)):
                both = Both(program_of(body), capacity=1100, nursery=nursery, pace=pace)
                outcomes.add(both.run(seed, 800))
        self.assertEqual(outcomes, {"done", "zero", "nil", "index", "deep"})

    def test_small_memories(self):
        outcomes = set()
        for body, capacity, seed in itertools.product(BODIES, (0, 3, 4, 8, 11, 16), (None, 5)):
            both = Both(program_of(body), capacity=capacity, nursery=min(capacity, 4), pace=seed or 0)
            outcomes.add(both.run(seed, 300))
        self.assertIn("full", outcomes)

    def test_references_are_resolved_ahead_of_twin_and_parted(self):
        # The stack holds the address from before the move, the payload the one behind it.
        program = program_of("make b;store 0;make b;store 1;load 0;load 0;load 0;put b next;get b next;load 0;twin b;tell;"
                             "load 0;watch b;nil b;store 0;settle;parted b;empty b;tell")
        for steps in range(14):
            both = Both(program, capacity=30)
            for count in range(30):
                if count == 6:
                    for _ in range(steps):
                        both.deed("collect")
                if not both.advance():
                    break
            self.assertEqual(both.real.told, (1, 0))

    def test_a_trap_leaves_all_as_it_was(self):
        for body in ("num 1;num 0;div;drop", "make b;nil b;get b value;drop", "num 2;num 1001;array n;drop", "nil b;num 2;pair q;drop"):
            machine = Machine(program_of(body), capacity=20, nursery=5, pace=3)
            while machine.outcome is None:
                before = (machine.picture(), machine.root_rows(), snapshot(machine.heap), machine.steps, machine.forced)
                machine.advance()
            self.assertEqual((machine.picture(), machine.root_rows(), snapshot(machine.heap), machine.steps, machine.forced), before)

    def test_behind_an_outcome_advance_changes_nothing(self):
        for body in ("make b;store 0;halt", "make b;store 0", "make b;store 0;nil b;watch b", "num 1000;array n;drop"):
            machine = Machine(program_of(body), capacity=20, nursery=5, pace=3)
            while machine.outcome is None:
                machine.advance()
            before = copy.deepcopy(vars(machine.heap)), machine.picture(), machine.steps, machine.outcome, machine.settlings
            for _ in range(3):
                self.assertIs(machine.advance(), False)
            self.assertEqual((vars(machine.heap), machine.picture(), machine.steps, machine.outcome, machine.settlings), before)

    def test_blocks_of_the_objects(self):
        machine = Machine(program_of("make b;weaken w;store 0;num 3;array n;store 1;load 0;peek w;num 5;pair q;drop"), capacity=40)
        for _ in range(10):
            machine.advance()
        self.assertEqual([block[1:] for block in blocks(machine.heap, 1, machine.heap.top)],
                         [(0, 2, 0, 0, 0), (4, 1, 0, 0, 0), (3, 3, 0, 0, 0), (6, 2, 0, 0, 0)])
        self.assertEqual([payload(machine.heap, at) for at in (1, 5, 8, 13)], [[1, 0], [2], [1, 1, 1], [2, 11]])


class RowsTest(unittest.TestCase):

    def test_the_order(self):
        program = program_of("make b;keep s;make b;store 1;make b;watch b;make b;watch b;settle;make b;watch b;make b;make b;call work;drop;drop")
        machine = Machine(program, capacity=60)
        for _ in range(16):
            machine.advance()
        one, two, parted_one, parted_two, watched, on_stack, passed, made = machine.heap.base, 5, 9, 13, 17, 21, 25, 29
        self.assertEqual(machine.root_rows(), (
            (2 * one, 0), (0, 2 * two), (2 * on_stack,), (2 * passed, 2 * made), (), (2 * watched,),
            (2 * parted_one, 2 * parted_two)))
        self.assertEqual(machine.addresses(), (one, two, on_stack, passed, made, watched, parted_one, parted_two))
        self.assertIs(type(machine.root_rows()), tuple)
        self.assertTrue(all(type(row) is tuple for row in machine.root_rows()))

    def test_the_order_decides_where_blocks_go(self):
        for body, steps, before, after in (
            ("make b;watch b;make b;store 1;make b;keep s;make b;make b;call work;drop;drop", 11,
             (9, 5, 13, 17, 21, 1), (41, 45, 49, 53, 57, 61)),
            ("make b;keep s;make b;watch b;settle;make b;watch b;make b;store 1;parted b;settle;make b;watch b;make b;keep s;halt", 15,
             (5, 49, 45, 1, 53), (57, 49, 45, 61, 53)),
        ):
            machine = Machine(program_of(body), capacity=60, nursery=40)
            for _ in range(steps):
                machine.advance()
            self.assertEqual(machine.addresses(), before)
            machine.collect_young()
            self.assertEqual(machine.addresses(), after)

    def test_addresses_are_resolved(self):
        machine = Machine(program_of("make b;store 0;make b;store 1;halt"), capacity=20)
        for _ in range(4):
            machine.advance()
        self.assertEqual(machine.addresses(), (1, 5))
        for _ in range(4):
            machine.collect()
        self.assertEqual((machine.collect(), machine.addresses()), ("move", (21, 5)))
        self.assertEqual((machine.collect(), machine.addresses(), machine.heap.phase), ("move", (21, 25), "moving"))
        self.assertIn(machine.root_rows()[1], ((2, 10), (42, 10), (2, 50), (42, 50)))


class CallsTest(unittest.TestCase):

    def machine(self):
        """A machine behind some instructions."""
        machine = Machine(program_of("make b;store 0;make b;store 1;make b;drop;load 0;load 1;put b next;halt"), capacity=30, nursery=9)
        for _ in range(9):
            machine.advance()
        return machine

    def test_collect(self):
        machine = self.machine()
        told = [machine.collect() for _ in range(10)]
        self.assertEqual(told, ["begin", "mark", "mark", "marked", "move", "move", "moved", "update", "update", "done"])
        self.assertEqual((machine.heap.phase, machine.waste(), machine.held_words()), ("idle", 0, 8))

    def test_collect_young(self):
        machine = self.machine()
        self.assertEqual((machine.heap.young_top, machine.waste()), (5, 4))
        self.assertIsNone(machine.collect_young())
        self.assertEqual((machine.heap.young_top, machine.waste(), machine.heap.used()), (1, 0, 8))

    def test_finish_and_collect_all(self):
        for steps in range(10):
            machine = self.machine()
            for _ in range(steps):
                machine.collect()
            other = copy.deepcopy(machine)
            self.assertEqual(machine.finish(), 10 - steps if steps else 0)
            self.assertEqual(machine.finish(), 0)
            self.assertEqual(other.collect_all(), (10 - steps if steps else 0) + 10)
            self.assertEqual((other.waste(), other.heap.used(), other.collect_all()), (0, 8, 10))

    def test_when_the_run_has_ended(self):
        for body, outcome in (("make b;keep s", "done"), ("make b;store 0;halt", "done"), ("make b;store 0;nil b;watch b", "nil"),
                              ("make b;keep s;num 40;array n;drop", "full")):
            both = Both(program_of(body), capacity=30, nursery=5)
            self.assertEqual(both.run(), outcome)
            picture = both.real.picture()
            for name in ("collect_young", "collect", "collect", "finish", "finish", "collect_all") + ("collect",) * 12:
                both.deed(name)
                self.assertEqual((both.real.picture(), both.real.held_words()), (picture, 4))

    def test_when_no_frame_is_left(self):
        both = Both(program_of("make b;store 0"), capacity=30, nursery=5)
        both.run()
        self.assertEqual((both.real.root_rows(), both.real.addresses(), both.real.waste()), (((0, 0), (), ()), (), 4))
        self.assertEqual((both.deed("collect_all"), both.real.waste()), (4, 0))

    def test_asking_changes_nothing(self):
        machine = self.machine()
        for _ in range(10):
            before = copy.deepcopy(vars(machine.heap)), machine.root_rows()
            for name in ("picture", "held_words", "root_rows", "addresses", "waste"):
                self.assertEqual(getattr(machine, name)(), getattr(machine, name)())
            self.assertEqual((vars(machine.heap), machine.root_rows()), before)
            machine.collect()

    def test_kinds_of_answers(self):
        machine = self.machine()
        for value in (machine.told, machine.addresses(), machine.root_rows()):
            self.assertIs(type(value), tuple)
        for value in (machine.finish(), machine.collect_all(), machine.waste(), machine.held_words(), machine.forced, machine.steps):
            self.assertIs(type(value), int)

    def test_waste(self):
        program = assemble("record box value:num\nfunction main 0\nmake box\ndrop\nmake box\ndrop\nback\nend")
        for pace, phase in ((0, "idle"), (8, "updating")):
            machine = Machine(program, capacity=5, pace=pace)
            while machine.advance():
                pass
            self.assertEqual((machine.outcome, machine.steps, machine.settlings, machine.held_words(), machine.waste()), ("done", 5, 0, 0, 3))
            self.assertEqual((machine.forced, machine.heap.phase), (0 if pace else 1, phase))


if __name__ == "__main__":
    unittest.main()
