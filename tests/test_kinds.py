"""Points 20, 21 and 23: states of kinds, what an instruction makes of them, how they meet."""

import itertools
import unittest

from quietbroom.kinds import entry_state, fits, kinds_after, merged
from quietbroom.operations import OPERATIONS
from quietbroom.programs import make_program
from tests.samples import STATICS, as_lists

# A shape is called "any", and the tie's value has a kind of its own.
SHAPES = (
    ("any", "record", (("item", "num"), ("next", "row"))),
    ("bare", "record", ()),
    ("row", "array", (("item", "any"),)),
    ("sums", "array", (("item", "num"),)),
    ("look", "weak", (("target", "tie"),)),
    ("tie", "pair", (("key", "any"), ("value", "bare"))),
    ("tag", "pair", (("key", "row"), ("value", "num"))),
)
KINDS = ("num",) + tuple(name for name, _, _ in SHAPES)

# Each instruction that takes and puts fixed kinds, with these.
FIXED = (
    (("num", 5), (), ("num",)),
    (("num", -2147483648), (), ("num",)),
    (("add",), ("num", "num"), ("num",)),
    (("sub",), ("num", "num"), ("num",)),
    (("mul",), ("num", "num"), ("num",)),
    (("div",), ("num", "num"), ("num",)),
    (("mod",), ("num", "num"), ("num",)),
    (("less",), ("num", "num"), ("num",)),
    (("same",), ("num", "num"), ("num",)),
    (("flip",), ("num",), ("num",)),
    (("fetch", "best"), (), ("num",)),
    (("fetch", "kept"), (), ("row",)),
    (("keep", "best"), ("num",), ()),
    (("keep", "kept"), ("row",), ()),
    (("jump", 0), (), ()),
    (("jump", 1), (), ()),
    (("when", 0), ("num",), ()),
    (("when", 1), ("num",), ()),
    (("call", "main"), ("num",), ()),
    (("call", "work"), ("any", "num", "tie"), ("look",)),
    (("call", "count"), (), ("num",)),
    (("call", "sink"), ("bare", "bare"), ()),
    (("call", "none"), (), ()),
    (("halt",), (), ()),
    (("tell",), ("num",), ()),
    (("nil", "any"), (), ("any",)),
    (("nil", "look"), (), ("look",)),
    (("empty", "row"), ("row",), ("num",)),
    (("empty", "any"), ("any",), ("num",)),
    (("twin", "tie"), ("tie", "tie"), ("num",)),
    (("twin", "any"), ("any", "any"), ("num",)),
    (("make", "any"), (), ("any",)),
    (("make", "bare"), (), ("bare",)),
    (("get", "any", "item"), ("any",), ("num",)),
    (("get", "any", "next"), ("any",), ("row",)),
    (("put", "any", "item"), ("any", "num"), ()),
    (("put", "any", "next"), ("any", "row"), ()),
    (("array", "row"), ("num",), ("row",)),
    (("array", "sums"), ("num",), ("sums",)),
    (("at", "row"), ("row", "num"), ("any",)),
    (("at", "sums"), ("sums", "num"), ("num",)),
    (("set", "row"), ("row", "num", "any"), ()),
    (("set", "sums"), ("sums", "num", "num"), ()),
    (("length", "row"), ("row",), ("num",)),
    (("weaken", "look"), ("tie",), ("look",)),
    (("peek", "look"), ("look",), ("tie",)),
    (("pair", "tie"), ("any", "bare"), ("tie",)),
    (("pair", "tag"), ("row", "num"), ("tag",)),
    (("key", "tie"), ("tie",), ("any",)),
    (("key", "tag"), ("tag",), ("row",)),
    (("value", "tie"), ("tie",), ("bare",)),
    (("value", "tag"), ("tag",), ("num",)),
    (("watch", "any"), ("any",), ()),
    (("watch", "tag"), ("tag",), ()),
    (("parted", "any"), (), ("any",)),
    (("parted", "row"), (), ("row",)),
    (("settle",), (), ()),
)
CARRYING = {"drop", "copy", "swap", "load", "store"}


def program_with(instruction, result=None):
    """A program whose last function has this instruction at place 1 and this result."""
    back = (("back",),)
    return make_program(SHAPES, STATICS, (
        ("main", ("num",), None, 1, back),
        ("work", ("any", "num", "tie"), "look", 3, back),
        ("count", (), "num", 0, back),
        ("sink", ("bare", "bare"), None, 2, back),
        ("none", (), None, 0, back),
        ("tried", ("num", "row"), result, 4, (("halt",), instruction, ("halt",))),
    ))


class EntryStateTest(unittest.TestCase):

    def test_entry_states(self):
        program = program_with(("halt",))
        wanted = (
            (("num",), ()), (("any", "num", "tie"), ()), ((), ()), (("bare", "bare"), ()), ((), ()),
            (("num", "row", "unset", "unset"), ()),
        )
        self.assertEqual(tuple(entry_state(function) for function in program.functions), wanted)

    def test_all_unset(self):
        function = make_program((), (), (("main", (), None, 16, (("halt",),)),)).functions[0]
        self.assertEqual(entry_state(function), (("unset",) * 16, ()))
        self.assertEqual(entry_state(function=function), (("unset",) * 16, ()))


class KindsAfterTest(unittest.TestCase):

    slots = ("num", "mixed", "unset", "any")

    def after(self, instruction, stack, result=None, slots=slots):
        program = program_with(instruction, result)
        function = program.functions[-1]
        told = kinds_after(program, function, 1, (slots, stack))
        lists = [list(slots), list(stack)]
        self.assertEqual(kinds_after(program, function, 1, lists), told)
        self.assertEqual(lists, [list(slots), list(stack)])
        if not isinstance(told, str):
            self.assertEqual([type(part) for part in (told, *told)], [tuple] * 3)
        return told

    def test_every_operation_is_tried(self):
        tried = {instruction[0] for instruction, _, _ in FIXED}
        self.assertEqual(tried | CARRYING | {"back"}, set(OPERATIONS))

    def test_enough_values(self):
        for instruction, taken, put in FIXED:
            for below in ((), ("num",), ("mixed", "any"), ("row",) * 50):
                self.assertEqual(self.after(instruction, below + taken), (self.slots, below + put), instruction)

    def test_too_few_values(self):
        for instruction, taken, _ in FIXED:
            for count in range(len(taken)):
                self.assertEqual(self.after(instruction, taken[len(taken) - count:]), "underflow", instruction)
                self.assertEqual(self.after(instruction, ("mixed",) * count), "underflow", instruction)

    def test_a_value_of_a_wrong_kind(self):
        for instruction, taken, _ in FIXED:
            for place, wanted in enumerate(taken):
                for kind in KINDS + ("mixed",):
                    if kind != wanted:
                        wrong = taken[:place] + (kind,) + taken[place + 1:]
                        self.assertEqual(self.after(instruction, wrong), "kind", instruction)
                        self.assertEqual(self.after(instruction, ("num", "any") + wrong), "kind", instruction)

    def test_what_lies_below_does_not_matter(self):
        for instruction, taken, put in FIXED:
            for kind in KINDS + ("mixed",):
                self.assertEqual(self.after(instruction, (kind,) + taken), (self.slots, (kind,) + put))

    def test_drop_takes_any_kind(self):
        for kind in KINDS + ("mixed",):
            self.assertEqual(self.after(("drop",), (kind,)), (self.slots, ()))
            self.assertEqual(self.after(("drop",), ("row", kind)), (self.slots, ("row",)))
        self.assertEqual(self.after(("drop",), ()), "underflow")

    def test_copy(self):
        for kind in KINDS + ("mixed",):
            self.assertEqual(self.after(("copy",), (kind,)), (self.slots, (kind, kind)))
            self.assertEqual(self.after(("copy",), ("row", kind)), (self.slots, ("row", kind, kind)))
        self.assertEqual(self.after(("copy",), ()), "underflow")

    def test_swap(self):
        for one, two in itertools.product(KINDS + ("mixed",), repeat=2):
            self.assertEqual(self.after(("swap",), (one, two)), (self.slots, (two, one)))
            self.assertEqual(self.after(("swap",), ("tie", one, two)), (self.slots, ("tie", two, one)))
        self.assertEqual(self.after(("swap",), ("num",)), "underflow")
        self.assertEqual(self.after(("swap",), ()), "underflow")

    def test_load(self):
        self.assertEqual(self.after(("load", 0), ()), (self.slots, ("num",)))
        self.assertEqual(self.after(("load", 1), ("tie",)), (self.slots, ("tie", "mixed")))
        self.assertEqual(self.after(("load", 3), ()), (self.slots, ("any",)))
        self.assertEqual(self.after(("load", 2), ()), "unset")
        self.assertEqual(self.after(("load", 2), ("num", "mixed")), "unset")

    def test_store(self):
        for slot in range(4):
            for kind in KINDS + ("mixed",):
                slots = self.slots[:slot] + (kind,) + self.slots[slot + 1:]
                self.assertEqual(self.after(("store", slot), (kind,)), (slots, ()))
                self.assertEqual(self.after(("store", slot), ("row", kind)), (slots, ("row",)))
            self.assertEqual(self.after(("store", slot), ()), "underflow")

    def test_back_without_a_result(self):
        for stack in ((), ("num",), ("mixed", "any")):
            self.assertEqual(self.after(("back",), stack), (self.slots, stack))

    def test_back_with_a_result(self):
        for result in KINDS:
            self.assertEqual(self.after(("back",), (), result), "underflow")
            for kind in KINDS + ("mixed",):
                wanted = (self.slots, ("any",)) if kind == result else "kind"
                self.assertEqual(self.after(("back",), ("any", kind), result), wanted)

    def test_halt_takes_nothing(self):
        for result in (None, "num", "row"):
            for stack in ((), ("num",), ("mixed", "any")):
                self.assertEqual(self.after(("halt",), stack, result), (self.slots, stack))

    def test_a_call_takes_what_the_called_one_wants(self):
        self.assertEqual(self.after(("call", "count"), ("any",), "row"), (self.slots, ("any", "num")))
        self.assertEqual(self.after(("call", "tried"), ("num", "row"), "row"), (self.slots, ("row",)))
        self.assertEqual(self.after(("call", "tried"), ("num", "row"), None), (self.slots, ()))
        self.assertEqual(self.after(("call", "tried"), ("row", "num"), None), "kind")

    def test_underflow_is_told_before_kind(self):
        self.assertEqual(self.after(("add",), ("row",)), "underflow")
        self.assertEqual(self.after(("set", "row"), ("mixed", "mixed")), "underflow")
        self.assertEqual(self.after(("call", "work"), ("mixed", "mixed")), "underflow")

    def test_no_slots(self):
        program = make_program((), (), (("main", (), None, 0, (("num", 1), ("tell",))),))
        function = program.functions[0]
        self.assertEqual(kinds_after(program, function, 0, ((), ())), ((), ("num",)))
        self.assertEqual(kinds_after(state=((), ()), place=1, function=function, program=program), "underflow")

    def test_example(self):
        body = [("make", "box"), ("store", 1), ("load", 0), ("get", "box", "value"), ("back",)]
        program = make_program([("box", "record", [("value", "num")])], [], [("main", ["num"], None, 2, body)])
        function = program.functions[0]
        state = entry_state(function)
        self.assertEqual(state, (("num", "unset"), ()))
        self.assertEqual(kinds_after(program, function, 0, state), (("num", "unset"), ("box",)))
        self.assertEqual(kinds_after(program, function, 1, state), "underflow")
        self.assertEqual(kinds_after(program, function, 3, (("num", "box"), ("num",))), "kind")


# For two slots: what they merge to, and whether the first fits the second.
MEETINGS = {
    ("num", "num"): ("num", True), ("num", "box"): ("mixed", False), ("num", "mixed"): ("mixed", True),
    ("num", "unset"): ("unset", True),
    ("box", "num"): ("mixed", False), ("box", "box"): ("box", True), ("box", "mixed"): ("mixed", True),
    ("box", "unset"): ("unset", True),
    ("mixed", "num"): ("mixed", False), ("mixed", "box"): ("mixed", False), ("mixed", "mixed"): ("mixed", True),
    ("mixed", "unset"): ("unset", True),
    ("unset", "num"): ("unset", False), ("unset", "box"): ("unset", False), ("unset", "mixed"): ("unset", False),
    ("unset", "unset"): ("unset", True),
}


class MeetingsTest(unittest.TestCase):

    def test_slots(self):
        for (one, two), (both, fine) in MEETINGS.items():
            self.assertEqual(merged(((one,), ()), ((two,), ())), ((both,), ()))
            self.assertIs(fits(((one,), ()), ((two,), ())), fine, (one, two))

    def test_stacks(self):
        for (one, two), (both, fine) in MEETINGS.items():
            if "unset" not in (one, two):
                self.assertEqual(merged(((), (one,)), ((), (two,))), ((), (both,)))
                self.assertIs(fits(((), (one,)), ((), (two,))), fine, (one, two))

    def test_place_by_place(self):
        pairs = list(MEETINGS)
        values = [pair for pair in pairs if "unset" not in pair]
        one = (tuple(pair[0] for pair in pairs), tuple(pair[0] for pair in values))
        two = (tuple(pair[1] for pair in pairs), tuple(pair[1] for pair in values))
        both = (tuple(MEETINGS[pair][0] for pair in pairs), tuple(MEETINGS[pair][0] for pair in values))
        self.assertEqual(merged(one, two), both)
        self.assertEqual(merged(two, one), both)
        self.assertEqual(merged(as_lists(one), as_lists(two)), both)
        self.assertIs(fits(one, both), True)
        self.assertIs(fits(two, as_lists(both)), True)
        self.assertIs(fits(both, one), False)

    def test_one_place_that_does_not_fit(self):
        one = (("num", "box", "unset"), ("num", "mixed"))
        self.assertIs(fits(one, one), True)
        for wrong in (
            (("box", "box", "unset"), ("num", "mixed")), (("num", "num", "unset"), ("num", "mixed")),
            (("num", "box", "mixed"), ("num", "mixed")), (("num", "box", "unset"), ("box", "mixed")),
            (("num", "box", "unset"), ("num", "num")),
        ):
            self.assertIs(fits(one, wrong), False, wrong)

    def test_other_sizes_do_not_fit(self):
        states = [(("num",) * slots, ("num",) * values) for slots in range(4) for values in range(4)]
        for one, two in itertools.product(states, repeat=2):
            self.assertIs(fits(one, two), one == two)
            self.assertIs(fits(as_lists(one), as_lists(two)), one == two)

    def test_empty(self):
        self.assertEqual(merged(((), ()), ((), ())), ((), ()))
        self.assertEqual(merged([[], []], [[], []]), ((), ()))
        self.assertIs(fits(((), ()), ([], [])), True)

    def test_arguments_stay(self):
        one, two = [["num", "box"], ["num"]], [["box", "box"], ["num"]]
        both = merged(one=one, two=two)
        self.assertIs(fits(one=one, two=two), False)
        self.assertEqual((one, two), ([["num", "box"], ["num"]], [["box", "box"], ["num"]]))
        one[0][1] = "num"
        self.assertEqual(both, (("mixed", "box"), ("num",)))

    def test_example(self):
        one = (("num", "box", "unset"), ("num",))
        two = (("num", "num", "num"), ("box",))
        self.assertEqual(merged(one, two), (("num", "mixed", "unset"), ("mixed",)))
        self.assertIs(fits(one, two), False)
        self.assertIs(fits(two, merged(one, two)), True)


if __name__ == "__main__":
    unittest.main()
