"""Points 28 to 31 and 42: how a run of the plain machine begins, numbers, the stack, places and calls."""

import itertools
import unittest

from quietbroom.assembler import assemble
from quietbroom.errors import BadArguments, QuietError, Refused
from quietbroom.plain import PlainMachine
from quietbroom.programs import make_program

LOW, HIGH = -2147483648, 2147483647
SPAN = 4294967296


def machine_for(text, arguments=(), **more):
    """A machine for an assembler text."""
    return PlainMachine(assemble(text), arguments, **more)


def main(body, slots=0, head=""):
    """The text of a program whose entry has these lines, told in one line."""
    return f"{head}\nfunction main {slots}\n" + body.replace(";", "\n") + "\nend"


def run(machine, fuel=1000):
    """Runs a machine to its end; the outcome."""
    for _ in range(fuel):
        if not machine.advance():
            break
    return machine.outcome


def told_by(body, slots=0, head=""):
    """The numbers that the instructions tell, which end rightly."""
    machine = machine_for(main(body + ";back", slots, head))
    if run(machine) != "done":
        raise AssertionError(machine.outcome)
    return machine.told


def standing_of(machine):
    """All that can be asked of a machine but the outcome and the count of steps."""
    picture = machine.picture()
    return picture, machine.told, machine.births, machine.birth_numbers(), machine.held_words()


class StartTest(unittest.TestCase):

    TWO = "function main 3 num num\nload 0\ntell\nload 1\ntell\nback\nend"
    WRONG = "function main 1 num\ntell\nend"

    def test_everything_in_the_beginning(self):
        text = ("record box value:num\narray row box\nstatic a num\nstatic b box\nstatic c row\nstatic d num\n"
                "function main 4 num num\nback\nend\nfunction work 0\nback\nend")
        machine = machine_for(text, [5, -6])
        picture = machine.picture()
        self.assertEqual(picture.statics, (1, 0, 0, 1))
        self.assertEqual(picture.frames, (("main", 0, (11, -11, 0, 0), ()),))
        self.assertEqual((picture.watched, picture.parted, picture.objects), ((), (), ()))
        self.assertEqual((machine.told, machine.outcome, machine.steps, machine.settlings), ((), None, 0, 0))
        self.assertEqual((machine.births, machine.birth_numbers(), machine.held_words()), (0, (), 0))
        self.assertIsNone(machine.limit)

    def test_attributes_are_set_when_the_machine_is_made(self):
        for limit in (None, 0, 1, 500):
            machine = machine_for(main("back"), limit=limit)
            for name, value in (("told", ()), ("outcome", None), ("steps", 0), ("settlings", 0), ("births", 0),
                                ("limit", limit)):
                self.assertIn(name, vars(machine))
                self.assertEqual(vars(machine)[name], value)

    def test_no_arguments_and_no_slots(self):
        self.assertEqual(machine_for(main("back")).picture().frames, (("main", 0, (), ()),))
        self.assertEqual(machine_for(main("back", 2)).picture().frames, (("main", 0, (0, 0), ()),))
        self.assertEqual(PlainMachine(assemble(main("back"))).outcome, None)

    def test_arguments(self):
        program = assemble(self.TWO)
        for arguments in ((0, 0), [1, -1], (LOW, HIGH), [HIGH, LOW], [7, 7]):
            machine = PlainMachine(program, arguments)
            self.assertEqual(run(machine), "done")
            self.assertEqual(machine.told, tuple(arguments))

    def test_arguments_by_name(self):
        machine = PlainMachine(arguments=[3, 4], limit=9, program=assemble(self.TWO))
        self.assertEqual((run(machine), machine.told, machine.limit), ("done", (3, 4), 9))
        with self.assertRaises(TypeError):
            PlainMachine(assemble(self.TWO), [3, 4], 9)

    def test_arguments_may_be_changed_afterwards(self):
        arguments = [3, 4]
        machine = machine_for(self.TWO, arguments)
        arguments[0] = 9
        arguments.append(5)
        run(machine)
        self.assertEqual((machine.told, arguments), ((3, 4), [9, 4, 5]))

    def test_wrong_numbers_of_arguments(self):
        for count in (0, 1, 3, 4, 7):
            for arguments in ([5] * count, (5,) * count):
                with self.assertRaises(BadArguments) as caught:
                    machine_for(self.TWO, arguments)
                self.assertEqual(vars(caught.exception), {})
                self.assertIsInstance(caught.exception, QuietError)
        with self.assertRaises(BadArguments):
            machine_for(self.TWO)
        with self.assertRaises(BadArguments):
            machine_for(main("back"), [0])

    def test_arguments_that_are_no_numbers(self):
        for wrong in (True, False, None, "", "1", "num", HIGH + 1, LOW - 1, SPAN, -SPAN, 10 ** 30, -10 ** 30, 1.0, 0.5,
                      (), (1,), [], [1], {}, b"1", object()):
            for arguments in ([wrong, 1], [1, wrong], (wrong, wrong)):
                with self.assertRaises(BadArguments):
                    machine_for(self.TWO, arguments)

    def test_arguments_that_are_no_sequence(self):
        for wrong in (None, 5, True, "12", "ab"):
            with self.assertRaises(BadArguments):
                machine_for(self.TWO, wrong)

    def test_refused_comes_first(self):
        for arguments in ((), (1,), (True,), (None,), [1, 2], ["x"], [HIGH + 1]):
            with self.assertRaises(Refused) as caught:
                machine_for(self.WRONG, arguments)
            error = caught.exception
            self.assertEqual((error.number, error.why, error.walk, error.other), (0, "end", (0,), ()))

    def test_refused_for_any_function(self):
        text = main("back") + "\nfunction work 1\nload 0\ntell\nback\nend"
        with self.assertRaises(Refused) as caught:
            machine_for(text, [1])
        error = caught.exception
        self.assertEqual((error.number, error.why, error.walk, error.other), (1, "unset", (0,), ()))

    def test_two_machines_of_one_program(self):
        program = assemble("static s num\nfunction main 1 num\nload 0\nkeep s\nfetch s\ntell\nback\nend")
        one, two = PlainMachine(program, [1]), PlainMachine(program, [2])
        one.advance()
        one.advance()
        run(two)
        run(one)
        self.assertEqual((one.told, two.told), ((1,), (2,)))


class NumbersTest(unittest.TestCase):

    SOME = (0, 1, -1, 2, -2, 3, 7, -7, 65536, -65536, 1000000007, HIGH, HIGH - 1, LOW, LOW + 1)

    def computed(self, word, x, y):
        """What an operation puts, and the outcome."""
        machine = machine_for(main(f"num {x};num {y};{word};tell;back"))
        return run(machine), machine.told

    def wrapped(self, n):
        return (n - LOW) % SPAN + LOW

    def test_operations_of_two_numbers(self):
        for x, y in itertools.product(self.SOME, repeat=2):
            wanted = {"add": x + y, "sub": x - y, "mul": x * y, "less": int(x < y), "same": int(x == y)}
            if y != 0:
                wanted.update({"div": x // y, "mod": x % y})
            for word, result in wanted.items():
                self.assertEqual(self.computed(word, x, y), ("done", (self.wrapped(result),)), (word, x, y))

    def test_wrapping_at_both_bounds(self):
        for word, x, y, wanted in (
            ("add", HIGH, 1, LOW), ("add", LOW, -1, HIGH), ("sub", LOW, 1, HIGH), ("sub", HIGH, -1, LOW),
            ("sub", 0, LOW, LOW), ("mul", LOW, -1, LOW), ("mul", HIGH, HIGH, 1), ("mul", LOW, LOW, 0),
            ("mul", 65536, 65536, 0), ("mul", 65536, 32768, LOW), ("div", LOW, -1, LOW), ("mod", LOW, -1, 0),
        ):
            self.assertEqual(self.computed(word, x, y), ("done", (wanted,)), (word, x, y))

    def test_signs(self):
        for x, y, quotient, rest in ((7, 2, 3, 1), (-7, 2, -4, 1), (7, -2, -4, -1), (-7, -2, 3, -1), (6, 3, 2, 0),
                                     (-6, 3, -2, 0), (0, 5, 0, 0), (0, -5, 0, 0), (1, LOW, -1, LOW + 1)):
            self.assertEqual(self.computed("div", x, y), ("done", (quotient,)))
            self.assertEqual(self.computed("mod", x, y), ("done", (rest,)))

    def test_zero(self):
        for word in ("div", "mod"):
            for x in (0, 1, -1, LOW):
                self.assertEqual(self.computed(word, x, 0), ("zero", ()))
        self.assertEqual(self.computed("mul", 5, 0), ("done", (0,)))

    def test_flip(self):
        for n in self.SOME:
            self.assertEqual(told_by(f"num {n};flip;tell"), (int(n == 0),))

    def test_num(self):
        for n in self.SOME:
            self.assertEqual(told_by(f"num {n};tell"), (n,))

    def test_tell(self):
        self.assertEqual(told_by("num 1;num 2;num 3;tell;tell;tell;num -4;tell"), (3, 2, 1, -4))
        machine = machine_for(main("num 1;tell;num 2;tell;back"))
        run(machine, 2)
        told = machine.told
        self.assertIs(type(told), tuple)
        run(machine)
        self.assertEqual((told, machine.told), ((1,), (1, 2)))

    def test_operands_below_stay(self):
        self.assertEqual(told_by("num 9;num 5;num 3;sub;tell;tell"), (2, 9))

    def test_example(self):
        machine = machine_for("function main 1 num\nload 0\nnum 0\ndiv\ntell\nback\nend", [7])
        self.assertEqual((run(machine), machine.steps, machine.picture().frames), ("zero", 2, (("main", 2, (15,), (15, 1)),)))


class StackTest(unittest.TestCase):

    def test_drop_copy_swap(self):
        self.assertEqual(told_by("num 1;num 2;drop;tell"), (1,))
        self.assertEqual(told_by("num 1;num 2;copy;tell;tell;tell"), (2, 2, 1))
        self.assertEqual(told_by("num 1;num 2;num 3;swap;tell;tell;tell"), (2, 3, 1))

    def test_slots(self):
        self.assertEqual(told_by("num 1;num 2;store 1;store 0;load 1;tell;load 0;tell;load 0;tell", 2), (2, 1, 1))
        machine = machine_for(main("num 4;store 1;halt", 3))
        run(machine)
        self.assertEqual(machine.picture().frames, (("main", 2, (0, 9, 0), ()),))

    def test_a_slot_may_change_its_kind(self):
        machine = machine_for(main("num 4;store 0;make b;store 0;halt", 1, "record b"))
        run(machine)
        self.assertEqual(machine.picture().frames, (("main", 4, (2,), ()),))

    def test_statics(self):
        head = "static a num\nstatic b num"
        self.assertEqual(told_by("fetch a;tell;num 3;keep b;fetch a;tell;fetch b;tell;fetch b;tell", 0, head), (0, 0, 3, 3))
        machine = machine_for(main("num 3;keep b;halt", 0, head))
        run(machine)
        self.assertEqual(machine.picture().statics, (1, 7))

    def test_statics_are_shared_by_functions(self):
        text = "static a num\nfunction main 0\ncall set\nfetch a\ntell\nback\nend\nfunction set 0\nnum 8\nkeep a\nback\nend"
        machine = machine_for(text)
        self.assertEqual((run(machine), machine.told), ("done", (8,)))

    def test_references_are_carried(self):
        machine = machine_for(main("make b;copy;store 0;keep s;load 0;fetch s;swap;twin b;tell;back", 1, "record b\nstatic s b"))
        self.assertEqual((run(machine), machine.told), ("done", (1,)))


class PlacesTest(unittest.TestCase):

    def test_jump(self):
        self.assertEqual(told_by("jump a;num 1;tell;a:;num 2;tell"), (2,))
        self.assertEqual(told_by("jump b;a:;num 1;tell;jump c;b:;num 2;tell;jump a;c:"), (2, 1))

    def test_when(self):
        for n, wanted in ((0, (1,)), (1, (2,)), (-1, (2,)), (LOW, (2,)), (2, (2,))):
            self.assertEqual(told_by(f"num {n};when a;num 1;tell;jump b;a:;num 2;tell;b:"), wanted)

    def test_when_to_the_next_place(self):
        for n in (0, 5):
            self.assertEqual(told_by(f"num {n};when a;a:;num 3;tell"), (3,))

    def test_a_loop(self):
        body = "num 3;store 0;a:;load 0;tell;load 0;num 1;sub;copy;store 0;when a"
        self.assertEqual(told_by(body, 1), (3, 2, 1))

    def test_an_endless_loop(self):
        machine = machine_for(main("a:;jump a"))
        self.assertIsNone(run(machine, 500))
        self.assertEqual((machine.steps, machine.picture().frames), (500, (("main", 0, (), ()),)))

    def test_places(self):
        machine = machine_for(main("num 1;when a;settle;a:;jump b;settle;b:;back"))
        places = []
        while machine.outcome is None:
            places.append(machine.picture().frames[0][1])
            machine.advance()
        self.assertEqual(places, [0, 1, 3, 5])


class CallsTest(unittest.TestCase):

    def test_a_call(self):
        text = ("function main 1\nnum 5\nstore 0\nnum 9\nnum 1\nnum 2\ncall work\ntell\ntell\nback\nend\n"
                "function work 4 num num -> num\nload 0\nload 1\nsub\nback\nend")
        machine = machine_for(text)
        run(machine, 5)
        self.assertEqual(machine.picture().frames, (("main", 5, (11,), (19, 3, 5)),))
        self.assertIs(machine.advance(), True)
        self.assertEqual(machine.picture().frames, (("main", 6, (11,), (19,)), ("work", 0, (3, 5, 0, 0), ())))
        run(machine, 3)
        self.assertEqual(machine.picture().frames, (("main", 6, (11,), (19,)), ("work", 3, (3, 5, 0, 0), (-1,))))
        self.assertIs(machine.advance(), True)
        self.assertEqual(machine.picture().frames, (("main", 6, (11,), (19, -1)),))
        self.assertEqual((run(machine), machine.told, machine.steps), ("done", (-1, 9), 13))

    def test_back_without_a_result(self):
        text = "function main 0\nnum 5\ncall work\ntell\nback\nend\nfunction work 0\nnum 7\nnum 8\nback\nend"
        machine = machine_for(text)
        self.assertEqual((run(machine), machine.told), ("done", (5,)))

    def test_values_left_on_the_stack_go(self):
        text = "function main 0\nnum 5\ncall work\ntell\ntell\nback\nend\nfunction work 0 -> num\nnum 7\nnum 8\nnum 9\nback\nend"
        machine = machine_for(text)
        self.assertEqual((run(machine), machine.told), ("done", (9, 5)))
        machine = machine_for(main("num 1;num 2;back"))
        self.assertEqual((run(machine), machine.picture().frames, machine.steps), ("done", (), 3))

    def test_the_last_frame(self):
        machine = machine_for(main("back"))
        self.assertIs(machine.advance(), True)
        self.assertEqual((machine.outcome, machine.steps, machine.picture().frames), ("done", 1, ()))
        self.assertIs(machine.advance(), False)
        self.assertEqual((machine.outcome, machine.steps), ("done", 1))

    def test_the_entry_when_it_was_called(self):
        text = ("static s num\nfunction main 1 num\nload 0\ntell\nload 0\nwhen deeper\nback\ndeeper:\nnum 0\ncall main\n"
                "num 7\ntell\nback\nend")
        machine = machine_for(text, [1])
        self.assertEqual((run(machine), machine.told, machine.picture().frames), ("done", (1, 0, 7), ()))

    def test_deep(self):
        machine = machine_for("function main 0\nnum 5\ncall main\nback\nend")
        outcome = run(machine)
        frames = machine.picture().frames
        self.assertEqual((outcome, machine.steps, len(frames)), ("deep", 79, 40))
        self.assertEqual(frames[:39], (("main", 2, (), (11,)),) * 39)
        self.assertEqual(frames[39], ("main", 1, (), (11,)))

    def test_not_quite_deep(self):
        text = "function main 1 num\nload 0\ntell\nload 0\nflip\nwhen out\nload 0\nnum 1\nsub\ncall main\nout:\nback\nend"
        self.assertEqual(run(machine_for(text, [39])), "done")
        machine = machine_for(text, [40])
        before = None
        while machine.outcome is None:
            before = standing_of(machine)
            machine.advance()
        self.assertEqual((machine.outcome, standing_of(machine)), ("deep", before))
        self.assertEqual(before[0].frames[-1][1:], (8, (3,), (1,)))

    def test_arguments_stay_where_it_is_deep(self):
        machine = machine_for("function main 0\ncall work\nback\nend\nfunction work 0\nnum 1\nnum 2\ncall more\nback\nend\n"
                              "function more 2 num num\ncall work\nback\nend")
        self.assertEqual(run(machine), "deep")
        frames = machine.picture().frames
        self.assertEqual((len(frames), frames[38], frames[39]), (40, ("more", 1, (3, 5), ()), ("work", 2, (), (3, 5))))

    def test_frames_of_one_function_are_separate(self):
        text = ("function main 1 num\nload 0\nflip\nwhen out\nload 0\nnum 1\nsub\ncall main\nload 0\ntell\nout:\nback\nend")
        machine = machine_for(text, [4])
        self.assertEqual((run(machine), machine.told), ("done", (1, 2, 3, 4)))


class EndsTest(unittest.TestCase):

    def test_halt(self):
        machine = machine_for(main("num 5;num 6;halt;tell;back"))
        self.assertIs(machine.advance(), True)
        self.assertIs(machine.advance(), True)
        before = standing_of(machine)
        self.assertIs(machine.advance(), False)
        self.assertEqual((machine.outcome, machine.steps), ("done", 2))
        self.assertEqual(standing_of(machine), before)
        self.assertEqual(machine.picture().frames, (("main", 2, (), (11, 13)),))

    def test_halt_in_a_called_function(self):
        machine = machine_for("function main 0\ncall work\nback\nend\nfunction work 0\nnum 3\nhalt\nend")
        self.assertEqual((run(machine), machine.steps), ("done", 2))
        self.assertEqual(machine.picture().frames, (("main", 1, (), ()), ("work", 1, (), (7,))))

    def test_behind_an_outcome_nothing_changes(self):
        head = "record b next:b\narray r b\n"
        for body, outcome in (
            ("back", "done"), ("halt", "done"), ("num 1;num 0;div;back", "zero"), ("nil b;get b next;drop;back", "nil"),
            ("num 0;array r;num 0;at r;drop;back", "index"), ("call main;back", "deep"), ("make b;make b;twin b;tell;back", "full"),
        ):
            machine = machine_for(main(body, 0, head), limit=5)
            self.assertEqual(run(machine), outcome)
            before = (standing_of(machine), machine.outcome, machine.steps, machine.settlings, machine.limit)
            for _ in range(5):
                self.assertIs(machine.advance(), False)
                self.assertEqual(
                    (standing_of(machine), machine.outcome, machine.steps, machine.settlings, machine.limit), before)

    def test_a_trap_leaves_all_as_it_was(self):
        head = "record b value:num next:b\narray r num\nweak w b\npair p b num\nstatic s num\n"
        for body, trap in (
            ("num 8;num 0;div;tell;back", "zero"), ("num 8;num 0;mod;tell;back", "zero"), ("nil b;get b value;tell;back", "nil"),
            ("nil b;num 3;put b value;back", "nil"), ("nil b;nil b;put b next;back", "nil"), ("nil r;num 0;at r;tell;back", "nil"),
            ("nil r;num 0;num 1;set r;back", "nil"), ("nil r;length r;tell;back", "nil"), ("nil b;weaken w;drop;back", "nil"),
            ("nil w;peek w;drop;back", "nil"), ("nil b;num 1;pair p;drop;back", "nil"), ("nil p;key p;drop;back", "nil"),
            ("nil p;value p;tell;back", "nil"), ("nil b;watch b;back", "nil"), ("num -1;array r;drop;back", "index"),
            ("num 1001;array r;drop;back", "index"), ("num 2;array r;num 2;at r;tell;back", "index"),
            ("num 2;array r;num -1;num 4;set r;back", "index"),
        ):
            machine = machine_for(main("num 5;keep s;make b;store 0;num 6;tell;make b;watch b;" + body, 1, head))
            before = None
            while machine.outcome is None:
                before = standing_of(machine), machine.steps
                result = machine.advance()
            self.assertIs(result, False)
            self.assertEqual(machine.outcome, trap, body)
            self.assertEqual((standing_of(machine), machine.steps), before, body)

    def test_steps(self):
        machine = machine_for(main("num 1;tell;settle;num 2;drop;back"))
        for count in range(1, 7):
            self.assertIs(machine.advance(), True)
            self.assertEqual(machine.steps, count)
        self.assertIs(machine.advance(), False)
        self.assertEqual(machine.steps, 6)

    def test_the_largest_function(self):
        body = (("num", 1), ("drop",)) * 99 + (("settle",), ("back",))
        machine = PlainMachine(make_program((), (), (("main", ("num",) * 6, None, 16, body),)), (1, 2, 3, 4, 5, 6))
        self.assertEqual((run(machine), machine.steps, machine.settlings), ("done", 200, 1))


if __name__ == "__main__":
    unittest.main()
