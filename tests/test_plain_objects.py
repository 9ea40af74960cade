"""Points 29, 30, 32, 33, 38 and 42: objects of the plain machine, room for them, and what can be asked of it."""

import unittest

from quietbroom.assembler import assemble
from quietbroom.plain import PlainMachine
from tests.naive import NaiveMachine
from tests.runs import random_run
from tests.test_plain import machine_for, main, run, standing_of, told_by

HEAD = """
record b value:num next:b
record none
array r b
array n num
weak w b
pair p b b
pair q b num
static s b
static t w
"""


def outcome_of(body, slots=2, **more):
    """The machine behind its run of these instructions."""
    machine = machine_for(main(body + ";back", slots, HEAD), **more)
    run(machine, 5000)
    return machine


class ObjectsTest(unittest.TestCase):

    def told(self, body, wanted, slots=2):
        self.assertEqual(told_by(body, slots, HEAD), wanted)

    def trapped(self, body, outcome):
        machine = outcome_of(body)
        self.assertEqual(machine.outcome, outcome, body)
        return machine

    def test_nil_and_empty(self):
        for name in ("b", "none", "r", "n", "w", "p", "q"):
            self.told(f"nil {name};empty {name};tell", (1,))
        self.told("make b;empty b;tell;num 0;array r;empty r;tell", (0, 0))

    def test_twin(self):
        self.told("nil b;nil b;twin b;tell", (1,))
        self.told("make b;nil b;twin b;tell;nil b;make b;twin b;tell", (0, 0))
        self.told("make b;make b;twin b;tell", (0,))
        self.told("make b;copy;twin b;tell", (1,))
        self.told("make b;store 0;make b;store 1;load 0;load 1;twin b;tell;load 1;load 1;twin b;tell", (0, 1))

    def test_records(self):
        self.told("make b;copy;get b value;tell;get b next;empty b;tell", (0, 1))
        self.told("make b;store 0;load 0;num -5;put b value;load 0;get b value;tell;load 0;get b next;empty b;tell", (-5, 1))
        self.told("make b;store 0;load 0;load 0;put b next;load 0;get b next;load 0;twin b;tell", (1,))
        self.told("make b;store 0;load 0;make b;put b next;load 0;nil b;put b next;load 0;get b next;empty b;tell", (1,))
        self.told("make none;make none;twin none;tell", (0,))

    def test_records_are_separate(self):
        self.told("make b;store 0;make b;store 1;load 0;num 3;put b value;load 1;num 4;put b value;"
                  "load 0;get b value;tell;load 1;get b value;tell", (3, 4))

    def test_arrays(self):
        self.told("num 3;array n;store 0;load 0;length n;tell;load 0;num 0;num 7;set n;load 0;num 2;num 9;set n;"
                  "load 0;num 0;at n;tell;load 0;num 1;at n;tell;load 0;num 2;at n;tell", (3, 7, 0, 9))
        self.told("num 2;array r;store 0;load 0;num 1;at r;empty b;tell;load 0;num 1;make b;set r;"
                  "load 0;num 1;at r;empty b;tell;load 0;num 0;at r;empty b;tell", (1, 0, 1))
        self.told("num 1;array r;store 0;load 0;num 0;make b;set r;load 0;num 0;nil b;set r;load 0;num 0;at r;empty b;tell", (1,))

    def test_lengths(self):
        for length in (0, 1, 2, 999, 1000):
            self.told(f"num {length};array n;length n;tell;num {length};array r;length r;tell", (length, length))
            self.assertEqual(outcome_of(f"num {length};array r;store 0;halt").held_words(), length + 2)
        for length in (-1, 1001, -2147483648, 2147483647):
            for name in ("n", "r"):
                machine = self.trapped(f"num {length};array {name};drop", "index")
                self.assertEqual((machine.births, machine.steps), (0, 1))

    def test_items_at_both_ends(self):
        for length in (1, 2, 1000):
            last = length - 1
            self.told(f"num {length};array n;store 0;load 0;num 0;num 5;set n;load 0;num {last};num 6;set n;"
                      f"load 0;num {last};at n;tell", (6,))
            for index in (-1, length, length + 1, -length, -2147483648, 2147483647):
                self.trapped(f"num {length};array n;num {index};at n;tell", "index")
                self.trapped(f"num {length};array n;num {index};num 1;set n", "index")
        self.trapped("num 0;array n;num 0;at n;tell", "index")
        self.trapped("num 0;array r;num 0;nil b;set r", "index")

    def test_weak_cells(self):
        self.told("make b;copy;store 0;weaken w;copy;peek w;load 0;twin b;tell;peek w;empty b;tell", (1, 0))
        self.told("make b;weaken w;copy;peek w;empty b;tell;settle;peek w;empty b;tell", (0, 1))
        self.told("make b;copy;store 0;weaken w;settle;peek w;load 0;twin b;tell", (1,))

    def test_pairs(self):
        self.told("make b;copy;store 0;num 7;pair q;copy;key q;load 0;twin b;tell;value q;tell", (1, 7))
        self.told("make b;copy;store 0;num 7;pair q;settle;copy;key q;load 0;twin b;tell;value q;tell", (1, 7))
        self.told("make b;num 7;pair q;settle;copy;key q;empty b;tell;value q;tell", (1, 0))
        self.told("make b;make b;copy;store 0;pair p;settle;copy;key p;empty b;tell;value p;empty b;tell", (1, 1))
        self.told("make b;copy;store 0;make b;pair p;settle;copy;key p;empty b;tell;value p;empty b;tell", (0, 0))
        self.told("make b;nil b;pair p;copy;key p;empty b;tell;value p;empty b;tell", (0, 1))

    def test_nil_traps(self):
        for body in (
            "nil b;get b value;tell", "nil b;get b next;drop", "nil b;num 1;put b value", "nil b;make b;put b next",
            "nil b;nil b;put b next", "nil r;num 0;at r;drop", "nil r;num -1;at r;drop", "nil r;num 0;make b;set r",
            "nil r;num 5000;nil b;set r", "nil n;length n;tell", "nil b;weaken w;drop", "nil w;peek w;drop",
            "nil b;num 1;pair q;drop", "nil b;nil b;pair p;drop", "nil b;make b;pair p;drop", "nil p;key p;drop",
            "nil q;value q;tell", "nil b;watch b", "nil none;watch none",
        ):
            machine = self.trapped("num 3;tell;" + body, "nil")
            self.assertEqual(machine.told, (3,))

    def test_nil_is_told_before_index_and_full(self):
        machine = outcome_of("nil b;weaken w;drop", limit=0)
        self.assertEqual((machine.outcome, machine.settlings), ("nil", 0))
        machine = outcome_of("nil b;num 1;pair q;drop", limit=0)
        self.assertEqual((machine.outcome, machine.settlings), ("nil", 0))
        machine = outcome_of("num 1001;array n;drop", limit=0)
        self.assertEqual((machine.outcome, machine.settlings), ("index", 0))

    def test_what_lies_below_stays(self):
        for body in (
            "nil b;empty b;drop", "make b;make b;twin b;drop", "make b;get b value;drop", "make b;num 4;put b value",
            "num 2;array n;drop", "num 2;array n;num 1;at n;drop", "num 2;array n;num 1;num 5;set n", "num 2;array n;length n;drop",
            "make b;weaken w;drop", "make b;weaken w;peek w;drop", "make b;num 3;pair q;drop", "make b;num 3;pair q;key q;drop",
            "make b;num 3;pair q;value q;drop", "make b;watch b", "parted b;drop", "settle",
        ):
            self.told("num 77;num 66;" + body + ";tell;tell", (66, 77))

    def test_births(self):
        machine = machine_for(main("make b;num 2;array r;make b;weaken w;make b;num 1;pair q;halt", 0, HEAD))
        births = []
        while machine.outcome is None:
            machine.advance()
            births.append(machine.births)
        self.assertEqual(births, [1, 1, 2, 3, 4, 5, 5, 6, 6])
        self.assertEqual(machine.birth_numbers(), (0, 1, 3, 5, 2, 4))
        self.assertEqual(machine.picture().objects, (
            ("b", (1, 0)), ("r", (0, 0)), ("w", (10,)), ("q", (12, 3)), ("b", (1, 0)), ("b", (1, 0))))

    def test_example(self):
        machine = machine_for("record box value:num\nweak look box\nfunction main 1\nmake box\nweaken look\nstore 0\nload 0\n"
                              "peek look\nempty box\ntell\nsettle\nload 0\npeek look\nempty box\ntell\nback\nend", limit=6)
        self.assertEqual((run(machine), machine.told, machine.steps, machine.settlings, machine.births),
                         ("done", (0, 1), 13, 1, 2))


class ListsTest(unittest.TestCase):

    def lists(self, body, slots=2):
        machine = outcome_of(body + ";halt", slots)
        self.assertEqual(machine.outcome, "done")
        picture = machine.picture()
        return picture.watched, picture.parted, machine

    def test_watch(self):
        watched, parted, machine = self.lists("make b;watch b;make none;copy;watch none;watch none")
        self.assertEqual((watched, parted, machine.birth_numbers()), ((2, 4, 4), (), (0, 1)))
        self.assertEqual(machine.picture().frames[0][3], ())

    def test_settle(self):
        watched, parted, machine = self.lists("make b;copy;store 0;watch b;make b;watch b;settle")
        self.assertEqual((watched, parted, machine.settlings), ((2,), (4,), 1))
        watched, parted, machine = self.lists("make b;copy;store 0;watch b;settle;nil b;store 0;settle;settle")
        self.assertEqual((watched, parted, machine.settlings), ((), (2,), 3))

    def test_the_same_reference_several_times(self):
        body = "make b;copy;copy;watch b;watch b;store 0;make b;copy;watch b;watch b;load 0;watch b;settle"
        watched, parted, machine = self.lists(body)
        self.assertEqual((watched, parted, machine.birth_numbers()), ((2, 2, 2), (4, 4), (0, 1)))
        watched, parted, machine = self.lists(body + ";nil b;store 0;settle")
        self.assertEqual((watched, parted, machine.birth_numbers()), ((), (2, 2, 4, 4, 4), (1, 0)))

    def test_parted_takes_the_first_of_its_shape(self):
        body = "make b;watch b;make none;watch none;make b;watch b;num 1;array r;watch r;make none;watch none;settle"
        watched, parted, machine = self.lists(body)
        self.assertEqual((watched, machine.birth_numbers()), ((), (0, 1, 2, 3, 4)))
        for name, first, left in (("b", 0, (1, 2, 3, 4)), ("none", 1, (0, 2, 3, 4)), ("r", 3, (0, 1, 2, 4))):
            _, parted, machine = self.lists(body + f";parted {name};store 1")
            self.assertEqual(machine.birth_numbers(), (first,) + left)
            self.assertEqual(parted, (4, 6, 8, 10))
        _, parted, machine = self.lists(body + ";parted b;drop;parted b;drop;parted b;empty b;tell")
        self.assertEqual((machine.told, machine.birth_numbers()), ((1,), (1, 3, 4)))

    def test_parted_of_a_shape_that_is_not_there(self):
        _, parted, machine = self.lists("parted b;empty b;tell;make none;watch none;settle;parted b;empty b;tell")
        self.assertEqual((machine.told, parted), ((1, 1), (2,)))

    def test_parted_takes_one_of_several_alike(self):
        _, parted, machine = self.lists("make b;copy;watch b;watch b;settle;parted b;store 0")
        self.assertEqual((parted, machine.picture().frames[0][2]), ((2,), (2, 0)))
        _, parted, machine = self.lists("make b;copy;watch b;watch b;settle;parted b;parted b;twin b;tell")
        self.assertEqual((parted, machine.told), ((), (1,)))

    def test_what_is_watched_is_held_and_not_strongly(self):
        body = "make b;copy;weaken w;keep t;watch b;settle;fetch t;peek w;empty b;tell"
        _, parted, machine = self.lists(body)
        self.assertEqual((machine.told, parted, machine.held_words()), ((1,), (4,), 3 + 4))

    def test_what_has_parted_is_held_strongly(self):
        body = "make b;watch b;settle;parted b;copy;weaken w;keep t;watch b;settle;fetch t;peek w;empty b;tell"
        _, parted, machine = self.lists(body)
        self.assertEqual((machine.told, len(parted)), ((1,), 1))
        body = "make b;watch b;make b;watch b;settle;parted b;weaken w;keep t;settle;fetch t;peek w;empty b;tell"
        _, parted, machine = self.lists(body)
        self.assertEqual((machine.told, len(parted)), ((1,), 1))

    def test_a_settling_clears_what_is_not_held(self):
        # The weak cell is dropped, settled, and cannot be seen any more; another way to it is a parted list.
        body = "make b;copy;store 0;weaken w;watch w;nil b;store 0;settle;parted w;peek w;empty b;tell"
        _, _, machine = self.lists(body)
        self.assertEqual(machine.told, (1,))

    def test_example(self):
        machine = machine_for("record box\nfunction main 0\nmake box\nwatch box\nmake box\nwatch box\nsettle\nparted box\n"
                              "empty box\ntell\nhalt\nend")
        self.assertEqual(run(machine), "done")
        self.assertEqual((machine.told, machine.steps, machine.birth_numbers()), ((0,), 8, (1,)))
        self.assertEqual((machine.picture().watched, machine.picture().parted), ((), (2,)))


class RoomTest(unittest.TestCase):

    def room(self, body, limit, outcome, settlings, slots=2):
        machine = outcome_of(body, slots, limit=limit)
        self.assertEqual((machine.outcome, machine.settlings), (outcome, settlings), (body, limit))
        return machine

    def test_without_a_limit(self):
        body = "num 300;store 0;a:;num 1000;array n;drop;load 0;num 1;sub;copy;store 0;when a"
        machine = self.room(body, None, "done", 0)
        self.assertEqual((machine.births, machine.limit), (300, None))
        body = "a:;make b;store 1;load 1;fetch s;put b next;load 1;keep s;load 0;num 1;add;copy;store 0;num 200;less;when a"
        machine = self.room("num 0;store 0;" + body, None, "done", 0)
        self.assertEqual(machine.held_words(), 800)

    def test_exactly_enough(self):
        for body, words in (("make b;drop", 4), ("make none;drop", 2), ("num 0;array n;drop", 2), ("num 5;array r;drop", 7),
                            ("make b;make b;twin b;tell", 8), ("make b;weaken w;drop", 7), ("make b;num 1;pair q;drop", 8)):
            for limit in (words, words + 1, words + 1000):
                self.room(body, limit, "done", 0)
            machine = self.room(body, words - 1, "full", 1)
            self.assertEqual(machine.told, ())

    def test_full_leaves_all_as_it_was(self):
        machine = machine_for(main("num 8;tell;make b;keep s;num 9;array n;halt", 0, HEAD), limit=14)
        run(machine, 5)
        before = standing_of(machine)
        self.assertIs(machine.advance(), False)
        self.assertEqual((machine.outcome, machine.steps, machine.settlings), ("full", 5, 1))
        self.assertEqual(standing_of(machine), before)
        self.assertEqual(machine.picture().frames, (("main", 5, (), (19,)),))
        self.assertIs(machine.advance(), False)
        self.assertEqual(machine.settlings, 1)

    def test_what_is_not_held_takes_no_room(self):
        body = "num 100;store 0;a:;make b;drop;load 0;num 1;sub;copy;store 0;when a"
        machine = self.room(body, 4, "done", 0)
        self.assertEqual((machine.births, machine.held_words()), (100, 0))
        self.room(body, 3, "full", 1)

    def test_a_settling_finds_room(self):
        # The pair holds its value, four words, until it is cleared.
        body = "make b;make b;pair p;store 0;make b;store 1;load 0;key p;empty b;tell"
        machine = self.room(body, 12, "done", 1)
        self.assertEqual(machine.told, (1,))
        machine = self.room(body, 16, "done", 0)
        self.assertEqual(machine.told, (0,))
        machine = self.room(body, 11, "full", 1)
        self.room(body, 15, "done", 1)

    def test_one_word_more_or_less(self):
        for limit in range(17):
            machine = outcome_of("make b;weaken w;store 0;make b;store 1", limit=limit)
            if limit < 4:
                self.assertEqual((machine.outcome, machine.settlings, machine.births), ("full", 1, 0))
            elif limit < 7:
                self.assertEqual((machine.outcome, machine.settlings, machine.births), ("full", 1, 1))
            elif limit < 11:
                # With the first box gone from the weak cell 7 words suffice for the second one.
                self.assertEqual((machine.outcome, machine.settlings, machine.births), ("done", 1, 3))
            else:
                self.assertEqual((machine.outcome, machine.settlings, machine.births), ("done", 0, 3))

    def test_what_only_an_operand_refers_to_is_held(self):
        # The weak cell needs 3 words besides the 4 of the box on the stack.
        self.room("make b;weaken w;peek w;empty b;tell", 7, "done", 0)
        machine = self.room("make b;weaken w;peek w;empty b;tell", 6, "full", 1)
        self.assertEqual((machine.held_words(), machine.picture().frames[0][3]), (4, (2,)))
        machine = self.room("make b;make b;pair p;drop", 11, "full", 1)
        self.assertEqual(machine.held_words(), 8)

    def test_what_only_an_operand_refers_to_is_held_strongly(self):
        # While room for the second weak cell is sought, the box hangs on the operand alone, and on the first one weakly.
        body = "make b;copy;weaken w;keep t;weaken w;store 0;fetch t;peek w;empty b;tell;load 0;peek w;empty b;tell"
        machine = self.room("make b;weaken w;store 1;" + body, 13 + 3, "done", 1, 2)
        self.assertEqual(machine.told, (0, 0))

    def test_a_pair_keeps_its_operands_while_room_is_sought(self):
        body = "make b;weaken w;keep t;make b;make b;pair p;copy;key p;empty b;tell;value p;empty b;tell"
        machine = self.room(body, 3 + 8 + 4, "done", 1)
        self.assertEqual(machine.told, (0, 0))

    def test_watched_objects_part_and_take_room(self):
        body = "make b;watch b;make b;watch b;make b;store 0"
        machine = self.room(body, 11, "full", 1)
        self.assertEqual((machine.picture().watched, machine.picture().parted), ((), (2, 4)))
        machine = self.room(body, 12, "done", 0)
        self.assertEqual((machine.picture().watched, machine.picture().parted), ((2, 4), ()))

    def test_full_behind_a_settling_that_changed_much(self):
        body = "make b;num 5;pair q;store 0;make b;weaken w;store 1;make b;watch b;num 20;array n;drop"
        machine = self.room(body, 30, "full", 1)
        picture = machine.picture()
        self.assertEqual(picture.objects, (("q", (0, 1)), ("w", (0,)), ("b", (1, 0))))
        self.assertEqual((picture.watched, picture.parted, picture.frames), (
            (), (6,), (("main", 10, (2, 4), (41,)),)))
        self.assertEqual((machine.births, machine.steps, machine.held_words()), (5, 10, 11))

    def test_a_limit_of_nothing(self):
        self.assertEqual(run(machine_for(main("num 1;tell;settle;back"), limit=0)), "done")
        for body in ("make none;drop", "num 0;array n;drop"):
            for limit in (0, 1):
                self.room(body, limit, "full", 1)
            self.room(body, 2, "done", 0)

    def test_settlings_and_steps_are_counted(self):
        machine = self.room("settle;settle;settle", None, "done", 3)
        self.assertEqual(machine.steps, 4)
        machine = self.room("settle;make b;settle;drop", 3, "full", 2)
        self.assertEqual(machine.steps, 1)


class QuestionsTest(unittest.TestCase):

    def test_a_picture_is_not_changed_by_later_instructions(self):
        machine = machine_for(main("make b;store 0;load 0;num 3;put b value;load 0;watch b;nil b;store 0;settle;parted b;"
                                   "num 9;put b value;back", 1, HEAD))
        pictures, shown = [], []
        while machine.outcome is None:
            picture = machine.picture()
            pictures.append(picture)
            shown.append((picture.statics, picture.frames, picture.watched, picture.parted, picture.objects))
            machine.advance()
        for picture, parts in zip(pictures, shown):
            self.assertEqual((picture.statics, picture.frames, picture.watched, picture.parted, picture.objects), parts)
        self.assertEqual(shown[5][4], (("b", (7, 0)),))
        self.assertEqual(shown[-1][4], ())
        self.assertEqual(len({parts for parts in shown}), len(shown))

    def test_asking_changes_nothing(self):
        program = random_run(3)
        one, two = PlainMachine(program, [1], limit=100), PlainMachine(program, [1], limit=100)
        for _ in range(200):
            self.assertEqual((one.picture(), one.held_words(), one.birth_numbers()),
                             (one.picture(), one.held_words(), one.birth_numbers()))
            one.advance()
            two.advance()
        self.assertEqual((standing_of(one), one.steps, one.outcome), (standing_of(two), two.steps, two.outcome))

    def test_kinds_of_answers(self):
        machine = outcome_of("make b;store 0;halt")
        for value in (machine.told, machine.birth_numbers(), machine.picture().objects):
            self.assertIs(type(value), tuple)
        for value in (machine.steps, machine.settlings, machine.births, machine.held_words()):
            self.assertIs(type(value), int)

    def test_what_is_held_comes_and_goes(self):
        machine = machine_for(main("make b;store 0;make b;store 1;load 0;load 1;put b next;nil b;store 1;nil b;store 0;back", 2, HEAD))
        held = []
        while machine.outcome is None:
            held.append((machine.held_words(), machine.birth_numbers()))
            machine.advance()
        both, one = (8, (0, 1)), (4, (0,))
        self.assertEqual(held, [(0, ()), one, one, (8, (0, 1)), both, both, both, both, both, both, both, (0, ())])
        self.assertEqual((machine.births, machine.birth_numbers()), (2, ()))


class RandomTest(unittest.TestCase):
    """Against a machine of another make, at every instruction."""

    def compare(self, machine, naive, where):
        picture = machine.picture()
        self.assertEqual((picture.statics, picture.frames, picture.watched, picture.parted, picture.objects),
                         naive.picture_parts(), where)
        self.assertEqual(machine.held_words(), naive.held_words(), where)
        self.assertEqual(machine.birth_numbers(), tuple(thing.birth for thing in naive.held()), where)

    def test_random_runs(self):
        outcomes = {}
        for seed in range(150):
            program = random_run(seed)
            for limit in (None, 30, 90, 300):
                machine = PlainMachine(program, [seed % 3], limit=limit)
                naive = NaiveMachine(program, [seed % 3], limit)
                for count in range(350):
                    result = machine.advance()
                    self.assertIs(result, naive.advance(), (seed, limit, count))
                    self.assertEqual((machine.outcome, machine.told, machine.steps, machine.settlings, machine.births),
                                     (naive.outcome, tuple(naive.told), naive.steps, naive.settlings, len(naive.things)))
                    if count % 5 == 0 or not result:
                        self.compare(machine, naive, (seed, limit, count))
                    if not result:
                        break
                outcomes.setdefault(machine.outcome, []).append(seed)
        self.assertLessEqual({None, "nil", "index", "zero", "full"}, set(outcomes))

    def test_a_lower_limit_never_changes_what_an_unlimited_run_tells(self):
        text = main("a:;make b;copy;store 0;num 5;put b value;load 0;get b value;tell;load 1;num 1;add;copy;store 1;num 50;less;"
                    "when a;back", 2, HEAD)
        text = text.replace("a:", "num 0\nstore 1\na:")
        program = assemble(text)
        for limit in (None, 8, 9, 20):
            machine = PlainMachine(program, limit=limit)
            self.assertEqual((run(machine, 5000), machine.told, machine.settlings), ("done", (5,) * 50, 0))


if __name__ == "__main__":
    unittest.main()
