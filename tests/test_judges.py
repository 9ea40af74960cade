"""Points 25 and 27: tables and refusals that somebody else has made."""

import itertools
import unittest

from quietbroom.assembler import assemble
from quietbroom.checker import kind_tables, refusal
from quietbroom.judges import is_refusal, is_table
from quietbroom.programs import make_program
from tests.codes import random_code
from tests.samples import as_lists

SHAPES = (("box", "record", (("value", "num"),)), ("look", "weak", (("target", "box"),)))
HALT = ("halt",)
BACK = ("back",)


def program_of(body, slots=2, params=(), result=None):
    """A program whose function 1 has this body."""
    functions = (("main", (), None, 0, (HALT,)), ("work", params, result, slots, body), ("last", (), None, 1, (HALT,)))
    return make_program(SHAPES, (("best", "num"),), functions)


class TableTest(unittest.TestCase):

    # Slot 0 is the parameter; slot 1 gets a number or, by place 6, a box; place 10 is not reached.
    BODY = (("num", 1), ("store", 1), ("load", 0), ("when", 5), ("jump", 7), ("nil", "box"), ("store", 1),
            ("load", 1), ("drop",), BACK, ("add",))

    def setUp(self):
        self.program = program_of(self.BODY, params=("num",))
        self.table = list(kind_tables(self.program)[1])

    def judged(self, table, wanted, number=1, program=None):
        program = program or self.program
        self.assertIs(is_table(program, number, tuple(table)), wanted, table)
        lists = as_lists(table)
        self.assertIs(is_table(program, number, lists), wanted)
        self.assertEqual(lists, as_lists(table))

    def changed(self, place, entry, wanted):
        """The table with another entry at a place."""
        self.judged(self.table[:place] + [entry] + self.table[place + 1:], wanted)

    def test_the_table(self):
        both, mixed = ("num", "num"), ("num", "mixed")
        self.assertEqual(self.table, [
            (("num", "unset"), ()), (("num", "unset"), ("num",)), (both, ()), (both, ("num",)), (both, ()), (both, ()),
            (both, ("box",)), (mixed, ()), (mixed, ("mixed",)), (mixed, ()), None])
        self.judged(self.table, True)

    def test_all_tables_of_random_code(self):
        for seed in range(600):
            program = random_code(seed)
            if refusal(program) is None:
                for number, table in enumerate(kind_tables(program)):
                    self.judged(table, True, number, program)

    def test_other_tables_that_pass(self):
        self.changed(7, (("mixed", "mixed"), ()), False)
        wider = (("mixed", "mixed"), ("mixed",))
        self.judged(self.table[:8] + [wider, (("mixed", "mixed"), ()), None], True)
        self.changed(9, (("unset", "mixed"), ()), True)
        self.changed(9, (("unset", "unset"), ()), True)
        self.changed(9, (("num", "unset"), ()), True)
        self.changed(4, (("num", "mixed"), ()), True)
        # What no walk reaches may have an entry, too, from which its instruction goes on rightly.
        program = program_of((("jump", 2), ("settle",), HALT), slots=0)
        for entry in (None, ((), ())):
            self.judged([((), ()), entry, ((), ())], True, 1, program)
        self.judged([((), ()), ((), ("num",)), ((), ())], False, 1, program)

    def test_a_state_for_what_no_walk_reaches(self):
        # Behind place 10 the body ends.
        self.changed(10, (("num", "num"), ("num", "num")), False)
        program = program_of((HALT, ("num", 1), ("jump", 0)), slots=0)
        self.judged([((), ()), None, None], True, 1, program)
        self.judged([((), ()), None, ((), ())], True, 1, program)
        self.judged([((), ()), ((), ()), ((), ("num",))], False, 1, program)
        self.judged([((), ()), ((), ()), None], False, 1, program)
        self.judged([((), ()), None, ((), ("num",))], False, 1, program)

    def test_too_few_or_too_many_entries(self):
        self.judged([], False)
        self.judged(self.table[:-1], False)
        self.judged(self.table + [None], False)
        self.judged(self.table + [self.table[9]], False)
        self.judged(self.table * 2, False)
        self.judged([None] * len(self.table), False)

    def test_no_state_at_place_0(self):
        self.changed(0, None, False)

    def test_the_entry_state_must_fit(self):
        self.changed(0, (("unset", "unset"), ()), False)
        self.changed(0, (("num", "num"), ()), False)
        self.changed(0, (("box", "unset"), ()), False)
        self.changed(0, (("num", "mixed"), ()), False)
        program = program_of((HALT,), params=("num",))
        for slots in (("num", "unset"), ("mixed", "unset"), ("unset", "unset")):
            self.judged([(slots, ())], True, 1, program)
        for slots in (("num", "num"), ("num", "mixed"), ("box", "unset")):
            self.judged([(slots, ())], False, 1, program)
        self.judged([(("num", "unset"), ("num",))], False, 1, program)

    def test_slots_of_another_number(self):
        for slots in ((), ("num",), ("num", "num", "num"), ("num", "num", "unset")):
            for place in range(10):
                self.changed(place, (slots, self.table[place][1]), False)
            self.changed(10, (slots, ("num", "num")), False)

    def test_an_entry_that_does_not_fit(self):
        self.changed(7, (("num", "num"), ()), False)
        self.changed(7, (("num", "box"), ()), False)
        self.changed(7, (("num", "mixed"), ("num",)), False)
        self.changed(9, (("num", "num"), ()), False)
        self.changed(9, (("num", "mixed"), ("mixed",)), False)
        self.changed(5, None, False)
        self.changed(4, None, False)
        self.changed(9, None, False)

    def test_a_state_in_which_the_instruction_cannot_be_executed(self):
        self.changed(3, (("num", "num"), ()), False)
        self.changed(3, (("num", "num"), ("box",)), False)
        self.changed(3, (("num", "num"), ("mixed",)), False)
        self.changed(7, (("num", "unset"), ()), False)
        self.changed(8, (("num", "mixed"), ()), False)

    def test_back_without_the_result(self):
        program = program_of((BACK,), slots=0, result="box")
        for stack, wanted in ((("box",), False), ((), False)):
            self.judged([((), stack)], wanted, 1, program)
        program = program_of((("num", 1), BACK), slots=0, result="box")
        for stack in ((), ("num",), ("box",), ("mixed",)):
            self.judged([((), ()), ((), stack)], False, 1, program)
        program = program_of((("nil", "box"), BACK), slots=0, result="box")
        for stack, wanted in ((("box",), True), (("mixed",), False), (("num",), False), ((), False)):
            self.judged([((), ()), ((), stack)], wanted, 1, program)

    def test_strings_that_are_no_kinds(self):
        for word in ("", "Box", "absent", "main", "work", "best", "value", "any", "none", "numb"):
            for place in range(10):
                slots, stack = self.table[place]
                self.changed(place, ((word, slots[1]), stack), False)
                self.changed(place, ((slots[0], word), stack), False)
                self.changed(place, (slots, stack + (word,)), False)
                self.changed(place, (slots, (word,) + stack), False)

    def test_strings_that_are_no_kinds_where_nothing_looks_at_them(self):
        program = program_of((HALT, ("jump", 1)), slots=1)
        for word, wanted in (("num", True), ("box", True), ("look", True), ("mixed", True), ("unset", False),
                             ("absent", False), ("", False)):
            self.judged([(("unset",), ()), (("num",), (word,))], wanted, 1, program)
            self.judged([(("unset",), ()), ((word,), ())], wanted or word == "unset", 1, program)

    def test_unset_on_the_stack(self):
        for place in range(10):
            slots, stack = self.table[place]
            self.changed(place, (slots, stack + ("unset",)), False)
            self.changed(place, (slots, ("unset",) + stack), False)
        self.changed(8, (("num", "mixed"), ("unset",)), False)

    def test_running_off(self):
        program = program_of((("num", 1), ("when", 0)), slots=0)
        self.judged([((), ()), ((), ("num",))], False, 1, program)
        self.judged([((), ()), None], False, 1, program)

    def test_numbers_of_functions(self):
        self.judged(self.table, False, 0)
        self.judged([((), ())], True, 0)
        self.judged([(("unset",), ())], True, 2)
        self.judged([((), ())], False, 2)
        for number in (3, 4, 20, -1, -2, -3):
            self.judged(self.table, False, number)
            self.judged([((), ())], False, number)

    def test_a_program_that_is_not_accepted(self):
        program = program_of((("num", 1), ("when", 0), ("nil", "box"), ("tell",), HALT), slots=0)
        entries = [None, ((), ()), ((), ("num",)), ((), ("box",)), ((), ("mixed",))]
        for table in itertools.product(entries, repeat=5):
            self.assertIs(is_table(program, 1, table), False)

    def test_a_loop(self):
        program = program_of((("num", 1), ("store", 0), ("load", 0), ("when", 1), BACK), slots=1)
        self.assertEqual(refusal(program)[1], "height")
        program = program_of((("num", 1), ("store", 0), ("load", 0), ("when", 2), BACK), slots=1)
        unset, number = ("unset",), ("num",)
        good = [(unset, ()), (unset, number), (number, ()), (number, number), (number, ())]
        self.judged(good, True, 1, program)
        self.judged(good[:2] + [(("mixed",), ())] + good[3:], False, 1, program)
        self.judged(good[:4] + [(unset, ())], True, 1, program)

    def test_by_name(self):
        self.assertIs(is_table(table=self.table, number=1, program=self.program), True)

    def test_example(self):
        program = make_program([], [], [("main", [], None, 0, [("num", 0), ("when", 0), BACK])])
        self.assertIs(is_table(program, 0, [((), ()), ((), ("num",)), ((), ())]), True)
        self.assertIs(is_table(program, 0, [((), ()), ((), ("mixed",)), ((), ())]), False)


class RefusalTest(unittest.TestCase):

    def judged(self, program, number, why, walk, other, wanted):
        for told in ((number, why, walk, other), [number, why, list(walk), list(other)]):
            self.assertIs(is_refusal(program, told), wanted, told)

    def only(self, program, why, walk, other=()):
        """This refusal of function 1 holds, and what differs from it in one thing does not."""
        self.judged(program, 1, why, walk, other, True)
        for number in (0, 2, 3, 20, -1, -2, -3):
            self.judged(program, number, why, walk, other, False)
        for word in ("end", "underflow", "kind", "unset", "height", "", "End", "done"):
            if word != why:
                self.judged(program, 1, word, walk, other, False)
        for wrong in ((), walk[:-1], walk[1:], walk + (0,), walk + walk[-1:], (1,), (-1,), walk[:-1] + (walk[-1] + 1,)):
            self.judged(program, 1, why, wrong, other, False)
        if why != "height":
            for wrong in ((0,), walk, walk + (0,)):
                self.judged(program, 1, why, walk, wrong, False)

    def test_end(self):
        self.only(program_of((("num", 1),)), "end", (0,))
        self.only(program_of((("num", 1), ("tell",), ("num", 7))), "end", (0, 1, 2))
        self.only(program_of((("num", 1), ("when", 0))), "end", (0, 1))
        self.judged(program_of((("num", 1), ("when", 0))), 1, "end", (0, 1, 0, 1), (), False)

    def test_end_at_other_walks(self):
        program = program_of((("num", 1), ("when", 3), ("num", 1), ("settle",)))
        self.judged(program, 1, "end", (0, 1, 3), (), True)
        self.judged(program, 1, "end", (0, 1, 2, 3), (), True)
        self.judged(program, 1, "end", (0, 1, 2), (), False)

    def test_underflow(self):
        self.only(program_of((("drop",), HALT)), "underflow", (0,))
        self.only(program_of((("num", 1), ("num", 1), ("add",), ("add",), HALT)), "underflow", (0, 1, 2, 3))
        self.only(program_of((("settle",), BACK), result="num"), "underflow", (0, 1))

    def test_end_comes_before_underflow(self):
        self.only(program_of((("drop",),)), "end", (0,))
        self.only(program_of((("settle",), ("when", 0))), "end", (0, 1))

    def test_longer_walks_to_an_underflow(self):
        program = program_of((("num", 1), ("when", 0), ("tell",), HALT))
        for rounds in range(4):
            self.judged(program, 1, "underflow", (0, 1) * rounds + (0, 1, 2), (), True)
        self.judged(program, 1, "underflow", (0, 1, 0), (), False)

    def test_kinds_do_not_matter_for_end_and_underflow(self):
        program = program_of((("nil", "box"), ("tell",), ("load", 0), ("tell",), ("tell",), ("num", 1)))
        self.judged(program, 1, "underflow", (0, 1, 2, 3, 4), (), True)
        self.judged(program, 1, "kind", (0, 1), (), True)
        program = program_of((("nil", "box"), ("when", 3), HALT, ("settle",)))
        self.judged(program, 1, "end", (0, 1, 3), (), True)
        self.judged(program, 1, "kind", (0, 1), (), True)

    def test_a_shorter_beginning_fails(self):
        program = program_of((("num", 1), ("when", 4), ("drop",), HALT, ("settle",), ("drop",), ("jump", 7), ("num", 1)))
        self.judged(program, 1, "underflow", (0, 1, 4, 5), (), True)
        self.judged(program, 1, "end", (0, 1, 4, 5, 6, 7), (), False)
        self.judged(program, 1, "underflow", (0, 1, 2), (), True)
        program = program_of((("num", 1), ("jump", 3), HALT, ("when", 2)))
        self.judged(program, 1, "end", (0, 1, 3), (), True)
        program = program_of((("num", 1), ("jump", 3), ("drop",), ("when", 2)))
        self.judged(program, 1, "underflow", (0, 1, 3, 2), (), False)

    def test_kind(self):
        self.only(program_of((("nil", "box"), ("tell",), HALT)), "kind", (0, 1))
        self.only(program_of((("num", 1), ("empty", "box"), HALT)), "kind", (0, 1))
        self.only(program_of((("nil", "box"), BACK), result="num"), "kind", (0, 1))

    def test_unset(self):
        self.only(program_of((("load", 0), HALT)), "unset", (0,))
        self.only(program_of((("num", 1), ("store", 0), ("load", 1), HALT)), "unset", (0, 1, 2))
        self.judged(program_of((("load", 0), HALT), params=("num",)), 1, "unset", (0,), (), False)

    def test_end_comes_before_kind_and_unset(self):
        for body in ((("nil", "box"), ("tell",)), (("settle",), ("load", 0))):
            self.judged(program_of(body), 1, "kind", (0, 1), (), False)
            self.judged(program_of(body), 1, "unset", (0, 1), (), False)
            self.judged(program_of(body), 1, "end", (0, 1), (), True)

    def test_walks_behind_a_failure(self):
        program = program_of((("nil", "box"), ("tell",), ("nil", "box"), ("tell",), ("load", 0), HALT))
        self.judged(program, 1, "kind", (0, 1), (), True)
        self.judged(program, 1, "kind", (0, 1, 2, 3), (), False)
        self.judged(program, 1, "unset", (0, 1, 2, 3, 4), (), False)
        program = program_of((("load", 0), ("tell",), ("nil", "box"), ("tell",), HALT))
        self.judged(program, 1, "unset", (0,), (), True)
        self.judged(program, 1, "kind", (0, 1, 2, 3), (), False)

    def test_longer_walks_to_a_wrong_kind(self):
        program = program_of((("num", 1), ("when", 0), ("nil", "box"), ("tell",), HALT))
        for rounds in range(3):
            self.judged(program, 1, "kind", (0, 1) * rounds + (0, 1, 2, 3), (), True)

    def test_a_way_by_which_the_kind_is_right(self):
        program = program_of((("num", 1), ("store", 0), ("num", 1), ("when", 6), ("nil", "box"), ("store", 0),
                              ("load", 0), ("tell",), HALT))
        self.judged(program, 1, "kind", (0, 1, 2, 3, 4, 5, 6, 7), (), True)
        self.judged(program, 1, "kind", (0, 1, 2, 3, 6, 7), (), False)

    def test_height(self):
        program = program_of((("num", 1), ("num", 1), ("when", 0), BACK))
        self.only(program, "height", (0, 1, 2, 0), (0,))
        self.judged(program, 1, "height", (0,), (0, 1, 2, 0), True)
        self.judged(program, 1, "height", (0, 1, 2, 0, 1, 2, 0), (0,), True)
        self.judged(program, 1, "height", (0, 1, 2, 0, 1, 2, 0), (0, 1, 2, 0), True)
        self.judged(program, 1, "height", (0, 1, 2, 0, 1), (0, 1), True)

    def test_equal_heights(self):
        program = program_of((("num", 1), ("num", 1), ("when", 0), BACK))
        self.judged(program, 1, "height", (0,), (0,), False)
        self.judged(program, 1, "height", (0, 1, 2), (0, 1, 2), False)
        program = program_of((("num", 1), ("when", 3), ("settle",), HALT))
        self.judged(program, 1, "height", (0, 1, 3), (0, 1, 2, 3), False)

    def test_other_is_no_walk_or_ends_elsewhere(self):
        program = program_of((("num", 1), ("num", 1), ("when", 0), BACK))
        for other in ((), (1,), (0, 1), (0, 1, 2), (0, 2, 0), (0, 1, 2, 3), (-1,), (0, 0), (0, 1, 0)):
            self.judged(program, 1, "height", (0, 1, 2, 0), other, False)
            self.judged(program, 1, "height", other, (0, 1, 2, 0), False)

    def test_heights_behind_a_failure(self):
        program = program_of((("drop",), ("num", 1), ("num", 1), ("when", 1), HALT))
        self.judged(program, 1, "height", (0, 1, 2, 3, 1), (0, 1), False)
        program = program_of((("num", 1), ("num", 1), ("when", 0), ("settle",), ("when", 0)))
        self.judged(program, 1, "height", (0, 1, 2, 3, 4, 0), (0,), False)
        self.judged(program, 1, "height", (0,), (0, 1, 2, 3, 4, 0), False)
        self.judged(program, 1, "height", (0, 1, 2, 0), (0,), True)
        self.judged(program, 1, "height", (0, 1, 2, 0), (0, 1, 2, 3, 4, 0), False)

    def test_kinds_do_not_matter_for_heights(self):
        program = program_of((("nil", "box"), ("nil", "box"), ("when", 0), HALT))
        self.judged(program, 1, "height", (0, 1, 2, 0), (0,), True)
        program = program_of((("load", 0), ("nil", "box"), ("when", 0), HALT))
        self.judged(program, 1, "height", (0, 1, 2, 0), (0,), True)

    def test_whatever_the_instruction_at_the_last_place_is(self):
        for last in (HALT, BACK, ("settle",), ("add",), ("jump", 0), ("load", 0)):
            program = program_of((("num", 1), ("when", 3), ("num", 1), last))
            self.judged(program, 1, "height", (0, 1, 2, 3), (0, 1, 3), True)
            self.judged(program, 1, "height", (0, 1, 3), (0, 1, 2, 3), True)

    def test_no_reason_holds(self):
        program = program_of((("num", 1), ("tell",), ("num", 1), ("when", 0), HALT))
        self.assertIsNone(refusal(program))
        for why in ("end", "underflow", "kind", "unset", "height"):
            for walk in ((0,), (0, 1), (0, 1, 2, 3), (0, 1, 2, 3, 4), (0, 1, 2, 3, 0)):
                self.judged(program, 1, why, walk, (), False)
                self.judged(program, 1, why, walk, walk, False)

    def test_walks_do_not_go_on_behind_an_end(self):
        program = program_of((BACK, ("num", 1)))
        self.judged(program, 1, "end", (0, 1), (), False)
        program = program_of((HALT, ("num", 1)))
        self.judged(program, 1, "end", (0, 1), (), False)

    def test_refusals_of_random_code(self):
        for seed in range(1500):
            program = random_code(seed)
            told = refusal(program)
            if told is None:
                continue
            number, why, walk, other = told
            self.judged(program, number, why, walk, other, True)
            self.judged(program, number, why, walk[1:], other, False)
            self.judged(program, number, why, walk + (len(program.functions[number].body),), other, False)
            self.judged(program, len(program.functions), why, walk, other, False)
            if why == "height":
                self.judged(program, number, why, other, walk, True)
                self.judged(program, number, why, walk, walk, False)
            else:
                self.judged(program, number, why, walk, walk, False)

    def test_a_long_walk(self):
        program = program_of((("num", 1), ("when", 0), ("nil", "box"), ("tell",), HALT))
        self.judged(program, 1, "kind", (0, 1) * 5000 + (2, 3), (), True)
        self.judged(program, 1, "kind", (0, 1) * 5000 + (0, 2, 3), (), False)

    def test_arguments_stay(self):
        program = program_of((("num", 1), ("num", 1), ("when", 0), BACK))
        told = [1, "height", [0, 1, 2, 0], [0]]
        self.assertIs(is_refusal(refusal=told, program=program), True)
        self.assertEqual(told, [1, "height", [0, 1, 2, 0], [0]])

    def test_example(self):
        program = assemble(
            "record box value:num\nfunction main 2\nnum 1\nstore 0\nnil box\nstore 1\nagain:\nload 0\ntell\nload 1\n"
            "store 0\nnum 1\nwhen again\nback\nend")
        self.assertIs(is_refusal(program, (0, "kind", (0, 1, 2, 3, 4, 5), ())), False)
        self.assertIs(is_refusal(program, (0, "kind", (0, 1, 2, 3, 4, 5, 6, 7, 8, 9, 4, 5), ())), True)


if __name__ == "__main__":
    unittest.main()
