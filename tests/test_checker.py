"""Points 22, 24 and 26: which programs are accepted, their tables, and why others are refused."""

import unittest

from quietbroom.assembler import assemble
from quietbroom.checker import check, kind_tables, refusal
from quietbroom.errors import QuietError, Refused
from quietbroom.judges import is_refusal, is_table
from quietbroom.programs import make_program
from tests.codes import expected_refusal, expected_table, random_code

BOX = ("box", "record", (("value", "num"), ("next", "box")))
LOOK = ("look", "weak", (("target", "box"),))
HALT = ("halt",)
BACK = ("back",)


def program_of(*bodies, slots=3, params=()):
    """A program of functions with these bodies; the parameters are those of the entry."""
    functions = [("main", params, None, slots, bodies[0])]
    functions.extend((f"f{number}", (), None, slots, body) for number, body in enumerate(bodies[1:], start=1))
    return make_program((BOX, LOOK), (("best", "num"),), functions)


class CheckerTest(unittest.TestCase):

    def refused(self, program, *wanted):
        self.assertEqual(refusal(program), wanted)
        self.assertEqual([type(part) for part in refusal(program)], [int, str, tuple, tuple])
        self.assertIs(is_refusal(program, wanted), True)
        for ask in (check, kind_tables):
            with self.assertRaises(Refused) as caught:
                ask(program)
            self.assertEqual(vars(caught.exception), dict(zip(("number", "why", "walk", "other"), wanted)))
            self.assertIsInstance(caught.exception, QuietError)

    def accepted(self, program):
        self.assertIsNone(refusal(program))
        self.assertIsNone(check(program))

    def body_refused(self, body, *wanted, **more):
        """Refused alone, and as a later function behind an accepted one."""
        self.refused(program_of(body, **more), 0, *wanted)
        if not more.get("params"):
            self.refused(program_of((HALT,), body, (HALT,), **more), 1, *wanted)


class EndTest(CheckerTest):

    def test_end(self):
        self.body_refused([("num", 1)], "end", (0,), ())
        self.body_refused([("settle",), ("settle",)], "end", (0, 1), ())
        self.body_refused([("num", 0), ("when", 0)], "end", (0, 1), ())
        self.body_refused([("jump", 2), HALT, ("num", 1)], "end", (0, 2), ())

    def test_no_end(self):
        for last in (BACK, HALT, ("jump", 0), ("jump", 1)):
            self.accepted(program_of([("settle",), last]))

    def test_an_end_that_no_walk_reaches(self):
        self.accepted(program_of([HALT, ("num", 1)]))
        self.accepted(program_of([("jump", 0), ("drop",), ("tell",)]))

    def test_end_is_told_before_underflow(self):
        self.body_refused([("drop",)], "end", (0,), ())
        self.body_refused([("settle",), ("when", 0)], "end", (0, 1), ())

    def test_the_order_of_the_queue(self):
        # Both ways run off; the one that stands first in the queue is told, which is not the least walk.
        self.body_refused(
            [("num", 0), ("when", 4), ("settle",), ("jump", 5), ("settle",), ("settle",)], "end", (0, 1, 4, 5), ())
        self.body_refused([("num", 0), ("when", 4), ("num", 0), ("tell",), ("settle",)], "end", (0, 1, 4), ())
        self.body_refused([("num", 0), ("when", 3), ("jump", 4), ("jump", 4), ("num", 1)], "end", (0, 1, 2, 4), ())


class UnderflowTest(CheckerTest):

    def test_underflow(self):
        self.body_refused([("drop",), HALT], "underflow", (0,), ())
        self.body_refused([("num", 1), ("add",), HALT], "underflow", (0, 1), ())
        self.body_refused([("num", 1), ("tell",), ("tell",), HALT], "underflow", (0, 1, 2), ())
        self.body_refused([("num", 1), ("when", 3), ("drop",), ("tell",), HALT], "underflow", (0, 1, 2), ())
        self.body_refused([("num", 1), ("when", 4), ("settle",), HALT, ("drop",), HALT], "underflow", (0, 1, 4), ())

    def test_arguments_are_not_on_the_stack(self):
        self.body_refused([("tell",), HALT], "underflow", (0,), (), params=("num",))

    def test_back_takes_the_result(self):
        functions = [("main", (), None, 0, (HALT,)), ("give", (), "num", 0, (BACK,))]
        self.refused(make_program((), (), functions), 1, "underflow", (0,), ())
        functions[1] = ("give", (), "num", 0, (HALT,))
        self.accepted(make_program((), (), functions))
        functions[1] = ("give", (), "num", 0, (("num", 1), BACK))
        self.accepted(make_program((), (), functions))

    def test_call_takes_the_arguments(self):
        give = ("give", ("num", "num"), "num", 2, (("num", 1), BACK))
        body = (("num", 1), ("call", "give"), HALT)
        self.refused(make_program((), (), (("main", (), None, 0, body), give)), 0, "underflow", (0, 1), ())
        body = (("num", 1), ("copy",), ("call", "give"), ("tell",), HALT)
        self.accepted(make_program((), (), (("main", (), None, 0, body), give)))

    def test_heights_come_before_kinds(self):
        self.body_refused([("nil", "box"), ("tell",), ("tell",), HALT], "underflow", (0, 1, 2), ())
        self.body_refused([("load", 0), ("drop",), ("settle",), ("settle",)], "end", (0, 1, 2, 3), ())


class HeightTest(CheckerTest):

    def test_a_jump_back(self):
        self.body_refused([("num", 1), ("num", 1), ("when", 0), BACK], "height", (0, 1, 2, 0), (0,))
        self.body_refused([("num", 1), ("num", 1), ("jump", 1)], "height", (0, 1, 2, 1), (0, 1))
        self.accepted(program_of([("num", 1), ("num", 1), ("drop",), ("jump", 1)]))

    def test_a_jump_to_itself(self):
        self.body_refused([("num", 1), ("num", 1), ("when", 2), BACK], "height", (0, 1, 2, 2), (0, 1, 2))
        self.accepted(program_of([("jump", 0)]))
        self.accepted(program_of([("num", 1), ("jump", 1)]))

    def test_branches_that_meet(self):
        body = [("num", 1), ("when", 4), ("num", 2), ("jump", 5), ("settle",), HALT]
        # The shorter way puts place 5 in the queue; the other one finds it there.
        self.body_refused(body, "height", (0, 1, 2, 3, 5), (0, 1, 4, 5))

    def test_the_last_place_may_do_nothing(self):
        body = [("num", 1), ("when", 3), ("num", 2), BACK]
        self.body_refused(body, "height", (0, 1, 2, 3), (0, 1, 3))

    def test_both_successors(self):
        # when goes to the next place and to one with another height: the next place is looked at first.
        body = [("num", 1), ("num", 1), ("num", 1), ("when", 1), ("jump", 0)]
        self.body_refused(body, "height", (0, 1, 2, 3, 1), (0, 1))
        body = [("jump", 3), ("num", 1), ("jump", 2), ("num", 5), ("num", 7), ("when", 2), ("jump", 1)]
        self.body_refused(body, "height", (0, 3, 4, 5, 6, 1, 2), (0, 3, 4, 5, 2))

    def test_equal_heights(self):
        self.accepted(program_of([("num", 1), ("when", 4), ("num", 2), ("jump", 5), ("num", 3), ("tell",), HALT]))

    def test_underflow_may_come_first(self):
        self.body_refused([("num", 1), ("when", 0), ("drop",), BACK], "underflow", (0, 1, 2), ())
        self.body_refused([("num", 1), ("num", 1), ("when", 0), ("add",), BACK], "height", (0, 1, 2, 0), (0,))

    def test_the_entry_again(self):
        self.body_refused([("num", 1), ("jump", 0)], "height", (0, 1, 0), (0,))

    def test_example(self):
        program = assemble("function main 0\nagain:\nnum 1\nnum 1\nwhen again\nback\nend")
        self.refused(program, 0, "height", (0, 1, 2, 0), (0,))


class KindTest(CheckerTest):

    def test_kind(self):
        self.body_refused([("nil", "box"), ("tell",), HALT], "kind", (0, 1), ())
        self.body_refused([("num", 1), ("empty", "box"), HALT], "kind", (0, 1), ())
        self.body_refused([("nil", "look"), ("empty", "box"), HALT], "kind", (0, 1), ())
        self.body_refused([("nil", "box"), ("num", 1), ("add",), HALT], "kind", (0, 1, 2), ())
        self.body_refused([("num", 1), ("nil", "box"), ("when", 3), HALT], "kind", (0, 1, 2), ())
        self.body_refused([("nil", "box"), ("num", 1), ("swap",), ("when", 4), HALT], "kind", (0, 1, 2, 3), ())

    def test_unset(self):
        self.body_refused([("load", 0), ("drop",), HALT], "unset", (0,), ())
        self.body_refused([("num", 1), ("store", 1), ("load", 2), ("drop",), HALT], "unset", (0, 1, 2), ())
        self.body_refused([("load", 0), ("load", 1), HALT], "unset", (0, 1), (), params=("num",))
        self.accepted(program_of([("load", 0), ("load", 1), HALT], params=("num", "num")))

    def test_one_way_leaves_a_slot_unset(self):
        body = [("num", 1), ("when", 4), ("num", 5), ("store", 1), ("load", 1), ("drop",), BACK]
        self.body_refused(body, "unset", (0, 1, 4), ())

    def test_one_way_brings_a_wrong_kind(self):
        body = [("num", 0), ("store", 0), ("num", 1), ("when", 6), ("nil", "box"), ("store", 0),
                ("load", 0), ("tell",), BACK]
        self.body_refused(body, "kind", (0, 1, 2, 3, 4, 5, 6, 7), ())

    def test_mixed_values_may_be_carried(self):
        body = [("num", 0), ("store", 0), ("num", 1), ("when", 6), ("nil", "box"), ("store", 0),
                ("load", 0), ("copy",), ("swap",), ("store", 1), ("load", 1), ("drop",), ("drop",), BACK]
        self.accepted(program_of(body))
        body[12] = ("tell",)
        self.body_refused(body, "kind", (0, 1, 2, 3, 4, 5, 6, 7, 8, 9, 10, 11, 12), ())

    def test_a_walk_around_the_loop(self):
        body = [("num", 1), ("store", 0), ("load", 0), ("tell",), ("nil", "box"), ("store", 0),
                ("num", 1), ("when", 2), HALT]
        self.body_refused(body, "kind", (0, 1, 2, 3, 4, 5, 6, 7, 2, 3), ())

    def test_several_rounds_of_a_loop(self):
        # In each round a value moves on by a slot; the third round tells nil.
        body = [("nil", "box"), ("store", 0), ("num", 0), ("store", 1), ("num", 0), ("store", 2),
                ("load", 2), ("tell",), ("load", 1), ("store", 2), ("load", 0), ("store", 1), ("jump", 6)]
        around = (6, 7, 8, 9, 10, 11, 12)
        self.body_refused(body, "kind", (0, 1, 2, 3, 4, 5) + around * 2 + (6, 7), ())

    def test_the_least_of_the_shortest(self):
        # Three ways of one length, by when to 4 or on to 2; each brings a box, and all are shortest.
        body = [("num", 0), ("when", 4), ("nil", "box"), ("jump", 6), ("nil", "box"), ("jump", 6), ("tell",), HALT]
        self.body_refused(body, "kind", (0, 1, 2, 3, 6), ())
        body = [("num", 0), ("when", 4), ("num", 5), ("jump", 6), ("nil", "box"), ("jump", 6), ("tell",), HALT]
        self.body_refused(body, "kind", (0, 1, 4, 5, 6), ())

    def test_the_shorter_one_comes_before_the_lesser_one(self):
        body = [("num", 0), ("when", 5), ("settle",), ("load", 0), HALT, ("load", 1), HALT]
        self.body_refused(body, "unset", (0, 1, 5), ())
        body = [("num", 0), ("when", 4), ("load", 0), HALT, ("load", 1), HALT]
        self.body_refused(body, "unset", (0, 1, 2), ())

    def test_least_by_places_and_not_by_the_order_of_the_successors(self):
        # Behind place 5 the next place is 6, its operand 2: the walk by 2 is less.
        body = [("jump", 4), HALT, ("load", 0), HALT, ("num", 1), ("when", 2), ("load", 1), HALT]
        self.body_refused(body, "unset", (0, 4, 5, 2), ())

    def test_ways_with_other_news(self):
        # The first way to place 6 brings a number, the second one, as long, brings a box.
        body = [("num", 0), ("when", 4), ("num", 1), ("jump", 6), ("nil", "box"), ("jump", 6),
                ("store", 0), ("load", 0), ("tell",), HALT]
        self.body_refused(body, "kind", (0, 1, 4, 5, 6, 7, 8), ())

    def test_two_values_of_which_either_may_be_wrong(self):
        body = [("num", 1), ("store", 0), ("num", 1), ("store", 1), ("num", 1), ("when", 8),
                ("nil", "box"), ("store", 0), ("num", 1), ("when", 12), ("nil", "box"), ("store", 1),
                ("load", 1), ("tell",), ("load", 0), ("tell",), HALT]
        self.body_refused(body, "kind", (0, 1, 2, 3, 4, 5, 8, 9, 10, 11, 12, 13), ())

    def test_no_slots_and_an_empty_stack(self):
        for count in (1, 2, 50):
            body = [("settle",)] * count + [("nil", "box"), ("tell",), HALT]
            self.body_refused(body, "kind", tuple(range(count + 2)), (), slots=0)
            self.accepted(program_of([("settle",)] * count + [("nil", "box"), HALT], slots=0))

    def test_back_with_a_wrong_result(self):
        give = ("give", (), "num", 0, (("nil", "box"), BACK))
        self.refused(make_program((BOX,), (), (("main", (), None, 0, (HALT,)), give)), 1, "kind", (0, 1), ())

    def test_code_that_no_walk_reaches(self):
        self.accepted(program_of([("jump", 3), ("tell",), ("add",), BACK]))
        self.accepted(program_of([BACK, ("load", 0), ("nil", "box"), ("tell",), ("jump", 0)]))

    def test_the_first_function_with_a_fault(self):
        fine, end, kind = [HALT], [("num", 1)], [("nil", "box"), ("tell",), HALT]
        self.refused(program_of(fine, kind, end), 1, "kind", (0, 1), ())
        self.refused(program_of(fine, end, kind), 1, "end", (0,), ())
        self.refused(program_of(fine, fine, end), 2, "end", (0,), ())
        self.refused(program_of(kind, end, end), 0, "kind", (0, 1), ())

    def test_examples(self):
        body = [("load", 0), ("when", 4), ("num", 5), ("store", 1), ("load", 1), ("drop",), BACK]
        program = make_program([], [], [("main", ["num"], None, 2, body)])
        self.refused(program, 0, "unset", (0, 1, 4), ())
        program = assemble(
            "record box value:num\nfunction main 2\nnum 1\nstore 0\nnil box\nstore 1\nagain:\nload 0\ntell\nload 1\n"
            "store 0\nnum 1\nwhen again\nback\nend")
        self.refused(program, 0, "kind", (0, 1, 2, 3, 4, 5, 6, 7, 8, 9, 4, 5), ())


class LongTest(CheckerTest):
    """Functions of two hundred instructions with so many walks and states that none may try them all."""

    def branches(self):
        """The body: sixteen slots get a number, then each of them perhaps a box; 128 instructions."""
        body = []
        for slot in range(16):
            body.extend([("num", 0), ("store", slot)])
        for slot in range(16):
            at = len(body)
            body.extend([("num", 0), ("when", at + 4), ("nil", "box"), ("jump", at + 5), ("load", slot), ("store", slot)])
        return body

    def test_accepted(self):
        body = self.branches()
        body.extend([("settle",)] * (199 - len(body)) + [HALT])
        program = program_of(*[body] * 20, slots=16)
        self.accepted(program)
        table = kind_tables(program)[19]
        self.assertEqual(table[199], (("mixed",) * 16, ()))
        self.assertIs(is_table(program, 19, table), True)

    def test_a_slot_is_told(self):
        for slot in (0, 7, 15):
            walk = list(range(32))
            for branch in range(16):
                at = 32 + 6 * branch
                # The way that brings the box is the longer one.
                walk.extend((at, at + 1, at + 2, at + 3, at + 5) if branch == slot else (at, at + 1, at + 4, at + 5))
            body = self.branches() + [("load", slot), ("tell",), HALT]
            self.refused(program_of(body, slots=16), 0, "kind", (*walk, 128, 129), ())

    def test_a_long_way_around(self):
        # Each round moves values on by one of fifteen slots, and a branch may put a box into the first one.
        body = []
        for slot in range(16):
            body.extend([("num", 0), ("store", slot)])
        body.extend([("num", 0), ("when", 36), ("nil", "box"), ("store", 0)])
        for slot in range(14, -1, -1):
            body.extend([("load", slot), ("store", slot + 1)])
        body.extend([("load", 15), ("tell",), ("num", 0), ("store", 0), ("jump", 32)])
        first = tuple(range(71))
        around = (32, 33) + tuple(range(36, 71))
        walk = first + around * 13 + (32, 33) + tuple(range(36, 68))
        self.refused(program_of(body, slots=16), 0, "kind", walk, ())

    def test_a_high_stack(self):
        body = [("num", 0)] * 100 + [("when", 102), ("jump", 102)] + [("tell",)] * 97 + [HALT]
        self.accepted(program_of(body))
        body = [("nil", "box")] + [("num", 0)] * 99 + [("tell",)] * 99 + [HALT]
        self.accepted(program_of(body))
        body = [("num", 0)] * 2 + [("nil", "box")] + [("num", 0)] * 97 + [("add",)] * 99 + [HALT]
        self.refused(program_of(body), 0, "kind", tuple(range(197)), ())


class TablesTest(CheckerTest):

    def test_straight_code(self):
        program = program_of([("num", 1), ("store", 0), ("nil", "box"), ("get", "box", "value"), BACK], params=("num",))
        zero = ("num", "unset", "unset")
        self.assertEqual(kind_tables(program), (
            ((zero, ()), (zero, ("num",)), (zero, ()), (zero, ("box",)), (zero, ("num",))),))

    def test_kinds_of_answers(self):
        tables = kind_tables(program_of([("num", 1), HALT, HALT], [HALT]))
        self.assertEqual([type(part) for part in (tables, *tables, *tables[0][:2], *tables[0][0])], [tuple] * 7)
        self.assertIsNone(tables[0][2])

    def test_branches_that_meet(self):
        body = [("num", 1), ("when", 7), ("num", 1), ("store", 0), ("num", 1), ("store", 1), ("jump", 11),
                ("num", 1), ("store", 0), ("nil", "box"), ("store", 1), BACK]
        table = kind_tables(program_of(body))[0]
        self.assertEqual(table[11], (("num", "mixed", "unset"), ()))
        self.assertEqual(table[7], (("unset",) * 3, ()))
        self.assertEqual(table[6], (("num", "num", "unset"), ()))

    def test_values_that_meet(self):
        body = [("num", 1), ("num", 1), ("when", 5), ("nil", "box"), ("jump", 6), ("num", 1), ("drop",), ("tell",), HALT]
        table = kind_tables(program_of(body))[0]
        self.assertEqual(table[6], (("unset",) * 3, ("num", "mixed")))
        self.assertEqual(table[7], (("unset",) * 3, ("num",)))

    def test_loops(self):
        body = [("num", 1), ("store", 0), ("load", 0), ("store", 1), ("nil", "box"), ("store", 0), ("num", 1), ("when", 2),
                BACK]
        table = kind_tables(program_of(body))[0]
        self.assertEqual(table[2], (("mixed", "unset", "unset"), ()))
        self.assertEqual(table[3], (("mixed", "unset", "unset"), ("mixed",)))
        self.assertEqual(table[4], (("mixed", "mixed", "unset"), ()))
        self.assertEqual(table[8], (("box", "mixed", "unset"), ()))

    def test_three_ways_that_meet(self):
        body = [("num", 1), ("when", 9), ("num", 1), ("when", 7), ("num", 1), ("store", 0), ("jump", 9),
                ("nil", "box"), ("store", 0), HALT]
        self.assertEqual(kind_tables(program_of(body))[0][9], (("unset",) * 3, ()))
        body[1] = ("when", 2)
        self.assertEqual(kind_tables(program_of(body))[0][9], (("mixed", "unset", "unset"), ()))

    def test_code_that_no_walk_reaches(self):
        table = kind_tables(program_of([("jump", 2), ("drop",), ("num", 1), HALT, ("add",), ("jump", 4)]))[0]
        self.assertEqual([entry is None for entry in table], [False, True, False, False, True, True])

    def test_several_functions(self):
        functions = [
            ("main", ("num",), None, 1, (("load", 0), ("nil", "box"), ("call", "work"), ("drop",), BACK)),
            ("work", ("num", "box"), "look", 3, (("nil", "look"), BACK)),
            ("none", (), None, 0, (HALT,)),
        ]
        zero = ("num", "box", "unset")
        self.assertEqual(kind_tables(make_program((BOX, LOOK), (), functions)), (
            ((("num",), ()), (("num",), ("num",)), (("num",), ("num", "box")), (("num",), ("look",)), (("num",), ())),
            ((zero, ()), (zero, ("look",))),
            (((), ()),),
        ))

    def test_example(self):
        program = assemble(
            "record box value:num\nfunction main 1\nnum 1\nstore 0\nagain:\nnil box\nstore 0\nnum 0\nwhen again\nback\nend")
        self.assertEqual(kind_tables(program)[0][1:4], (
            (("unset",), ("num",)), (("mixed",), ()), (("mixed",), ("box",))))


class RandomTest(CheckerTest):
    """Against answers that go over all states."""

    def test_random_code(self):
        seen = {}
        for seed in range(4000):
            program = random_code(seed)
            wanted = expected_refusal(program)
            self.assertEqual(refusal(program), wanted, seed)
            seen.setdefault(wanted and wanted[1], []).append(seed)
            if wanted is None:
                tables = tuple(expected_table(program, function) for function in program.functions)
                self.assertEqual(kind_tables(program), tables, seed)
                for number, table in enumerate(tables):
                    self.assertIs(is_table(program, number, table), True, seed)
            else:
                self.assertIs(is_refusal(program, wanted), True, seed)
        self.assertEqual(set(seen), {None, "end", "underflow", "height", "kind", "unset"})
        for seeds in seen.values():
            self.assertGreater(len(seeds), 20)


if __name__ == "__main__":
    unittest.main()
