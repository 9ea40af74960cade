"""Point 11: what makes no program, each reason of each step, and their order."""

import itertools
import unittest

from quietbroom.errors import BadProgram
from quietbroom.operations import OPERANDS
from quietbroom.programs import make_program
from tests.samples import EVERY, FUNCTIONS, SHAPES, STATICS, as_lists, simple

HALT = (("halt",),)
MAIN = ("main", (), None, 0, HALT)
BOX = ("box", "record", (("value", "num"),))
BAD_NAMES = ("", "a" * 17, "1a", "Box", "a b", " a", "a ", "a\n", "\ta", "a-", "num", "mixed", "unset", "a_b")


class BadProgramTest(unittest.TestCase):

    def refused(self, parts, part, number, place, why):
        for some in (parts, as_lists(parts)):
            with self.assertRaises(BadProgram) as caught:
                make_program(*some)
            error = caught.exception
            self.assertEqual((error.part, error.number, error.place, error.why), (part, number, place, why), parts)

    def accepted(self, parts):
        self.assertEqual(make_program(*parts).data(), parts)


class CountsTest(BadProgramTest):

    def shapes(self, count):
        return tuple((f"s{k}", "record", ()) for k in range(count))

    def statics(self, count):
        return tuple((f"s{k}", "num") for k in range(count))

    def functions(self, count):
        return tuple((f"f{k}", (), None, 0, HALT) for k in range(count))

    def test_as_many_as_there_may_be(self):
        self.accepted((self.shapes(40), self.statics(20), self.functions(20)))

    def test_too_many(self):
        self.refused((self.shapes(41), (), self.functions(1)), "program", 0, -1, "many")
        self.refused(((), self.statics(21), self.functions(1)), "program", 0, -1, "many")
        self.refused(((), (), self.functions(21)), "program", 0, -1, "many")

    def test_none(self):
        self.refused(((), (), ()), "program", 0, -1, "empty")
        self.refused((self.shapes(40), self.statics(20), ()), "program", 0, -1, "empty")

    def test_many_is_told_before_empty(self):
        self.refused((self.shapes(41), (), ()), "program", 0, -1, "many")
        self.refused(((), self.statics(21), ()), "program", 0, -1, "many")


class ShapesTest(BadProgramTest):

    def shape_refused(self, shape, why):
        self.refused(((shape,), (), (MAIN,)), "shape", 0, -1, why)
        self.refused(((BOX, shape), (), (MAIN,)), "shape", 1, -1, why)

    def shape_accepted(self, shape):
        self.accepted(((BOX, shape), (), (MAIN,)))

    def test_names(self):
        for name in BAD_NAMES:
            self.shape_refused((name, "record", ()), "name")

    def test_twice(self):
        self.refused(((BOX, BOX), (), (MAIN,)), "shape", 1, -1, "twice")
        other = ("other", "record", ())
        self.refused(((other, BOX, ("box", "array", (("item", "num"),))), (), (MAIN,)), "shape", 2, -1, "twice")

    def test_forms(self):
        for form in ("", "Record", "list", "records", "num", "box", "record "):
            self.shape_refused(("some", form, ()), "form")

    def test_numbers_of_fields_of_a_record(self):
        for count in range(9):
            self.shape_accepted(("some", "record", tuple((f"f{k}", "num") for k in range(count))))
        for count in (9, 10, 50):
            self.shape_refused(("some", "record", tuple((f"f{k}", "num") for k in range(count))), "fields")

    def test_field_names_of_a_record(self):
        for name in BAD_NAMES:
            self.shape_refused(("some", "record", (("fine", "num"), (name, "num"))), "fields")
        self.shape_refused(("some", "record", (("a", "num"), ("b", "num"), ("a", "box"))), "fields")
        self.shape_accepted(("some", "record", (("some", "some"), ("item", "num"), ("box", "box"))))

    def test_fields_of_the_other_forms(self):
        item, target = ("item", "num"), ("target", "box")
        key, value = ("key", "box"), ("value", "num")
        right = {"array": (item,), "weak": (target,), "pair": (key, value)}
        every = [(), (item,), (target,), (key,), (value,), (key, value), (value, key), (item, item), (item, target),
                 (target, target), (key, value, value), (("keys", "box"), value), (("Item", "num"),), (("", "num"),)]
        for form, wanted in right.items():
            self.shape_accepted(("some", form, wanted))
            for fields in every:
                if fields != wanted:
                    self.shape_refused(("some", form, fields), "fields")

    def test_kinds(self):
        for kind in ("", "list", "mixed", "unset", "Num", "num ", "value", "main", "best"):
            for shape in (
                ("some", "record", (("one", "num"), ("two", kind))),
                ("some", "array", (("item", kind),)),
                ("some", "weak", (("target", kind),)),
                ("some", "pair", (("key", kind), ("value", "num"))),
                ("some", "pair", (("key", "some"), ("value", kind))),
            ):
                self.refused(((BOX, shape), (("best", "num"),), (MAIN,)), "shape", 1, -1, "kind")

    def test_num_where_a_shape_is_wanted(self):
        self.shape_refused(("some", "weak", (("target", "num"),)), "kind")
        self.shape_refused(("some", "pair", (("key", "num"), ("value", "num"))), "kind")
        self.shape_refused(("some", "pair", (("key", "num"), ("value", "some"))), "kind")
        self.shape_accepted(("some", "pair", (("key", "some"), ("value", "num"))))

    def test_itself_and_later_shapes(self):
        shapes = (
            ("one", "weak", (("target", "three"),)),
            ("two", "record", (("a", "two"), ("b", "three"), ("c", "one"))),
            ("three", "array", (("item", "three"),)),
        )
        self.accepted((shapes, (), (MAIN,)))

    def test_reasons_of_one_shape(self):
        nine = tuple((f"f{k}", "list") for k in range(9))
        self.refused(((("1", "list", nine), ("1", "list", nine)), (), (MAIN,)), "shape", 0, -1, "name")
        self.refused(((BOX, ("box", "list", nine)), (), (MAIN,)), "shape", 1, -1, "twice")
        self.refused(((BOX, ("some", "list", nine)), (), (MAIN,)), "shape", 1, -1, "form")
        self.refused(((BOX, ("some", "weak", (("item", "num"),))), (), (MAIN,)), "shape", 1, -1, "fields")


class StaticsTest(BadProgramTest):

    def test_names(self):
        for name in BAD_NAMES:
            self.refused(((), ((name, "num"),), (MAIN,)), "static", 0, -1, "name")
            self.refused(((), (("best", "num"), (name, "list")), (MAIN,)), "static", 1, -1, "name")

    def test_twice(self):
        statics = (("a", "num"), ("b", "num"), ("a", "num"))
        self.refused(((), statics, (MAIN,)), "static", 2, -1, "twice")
        self.refused(((), (("a", "num"), ("a", "list")), (MAIN,)), "static", 1, -1, "twice")
        self.accepted(((BOX,), (("box", "box"), ("main", "num"), ("value", "num")), (MAIN,)))

    def test_kinds(self):
        for kind in ("", "list", "mixed", "unset", "best", "main", "value", "Box"):
            self.refused(((BOX,), (("best", kind),), (MAIN,)), "static", 0, -1, "kind")
        self.accepted(((BOX,), (("best", "num"), ("some", "box")), (MAIN,)))


class FunctionsTest(BadProgramTest):

    def work_refused(self, function, why):
        self.refused(((BOX,), (), (MAIN, function)), "function", 1, -1, why)

    def test_names(self):
        for name in BAD_NAMES:
            self.refused(((), (), ((name, (), None, 0, HALT),)), "function", 0, -1, "name")
            self.work_refused((name, (), None, 0, HALT), "name")

    def test_twice(self):
        self.work_refused(MAIN, "twice")
        self.refused(((BOX,), (), (MAIN, ("a", (), None, 0, HALT), MAIN)), "function", 2, -1, "twice")
        self.accepted(((BOX,), (("best", "num"),), (MAIN, ("box", (), None, 0, HALT), ("best", (), None, 0, HALT))))

    def test_kinds(self):
        for kind in ("", "list", "mixed", "unset", "main", "value"):
            self.work_refused(("work", ("num", kind), None, 2, HALT), "kind")
            self.work_refused(("work", (), kind, 0, HALT), "kind")
            self.refused(((), (), (("main", (kind,), None, 1, HALT),)), "function", 0, -1, "kind")
        for result in (None, "num", "box"):
            self.accepted(((BOX,), (), (MAIN, ("work", ("num", "box"), result, 2, HALT))))

    def test_parameters_and_slots(self):
        for params, slots in ((0, 0), (0, 16), (1, 1), (6, 6), (6, 16)):
            self.accepted(((BOX,), (), (MAIN, ("work", ("num",) * params, None, slots, HALT))))
        for params, slots in ((7, 7), (7, 16), (6, 5), (1, 0), (0, -1), (0, 17), (3, 17), (0, 10 ** 9), (0, -10 ** 9)):
            self.work_refused(("work", ("box",) * params, None, slots, HALT), "slots")
            self.refused(((), (), (("main", ("num",) * params, None, slots, HALT),)), "function", 0, -1, "slots")

    def test_entry(self):
        self.accepted(((BOX,), (), (("main", ("num",) * 6, None, 6, HALT),)))
        for params, result in ((("box",), None), (("num", "box"), None), ((), "num"), ((), "box"), (("num",), "num")):
            self.refused(((BOX,), (), (("main", params, result, 2, HALT), MAIN)), "function", 0, -1, "entry")

    def test_only_the_first_is_the_entry(self):
        work = ("work", ("box", "num"), "box", 2, HALT)
        self.accepted(((BOX,), (), (MAIN, work)))
        self.refused(((BOX,), (), (work, MAIN)), "function", 0, -1, "entry")

    def test_bodies(self):
        for length in (1, 2, 199, 200):
            self.accepted(((BOX,), (), (MAIN, ("work", (), None, 0, HALT * length))))
        for length in (0, 201, 400):
            self.work_refused(("work", (), None, 0, HALT * length), "body")
            self.refused(((), (), (("main", (), None, 0, HALT * length),)), "function", 0, -1, "body")

    def test_reasons_of_one_function(self):
        seven = ("list",) * 7
        self.refused(((BOX,), (), (MAIN, ("1", seven, "list", 3, ()))), "function", 1, -1, "name")
        self.refused(((BOX,), (), (MAIN, ("main", seven, "list", 3, ()))), "function", 1, -1, "twice")
        self.refused(((BOX,), (), (("main", seven, "list", 3, ()),)), "function", 0, -1, "kind")
        self.refused(((BOX,), (), (("main", ("num",), "list", 0, ()),)), "function", 0, -1, "kind")
        self.refused(((BOX,), (), (("main", ("box",), "box", 0, ()),)), "function", 0, -1, "slots")
        self.refused(((BOX,), (), (("main", ("box",), None, 1, ()),)), "function", 0, -1, "entry")


# Operands that are not of their sort, in a function of three slots and of forty places.
WRONG = {
    "number": ("5", "", "num", -2147483649, 2147483648, 10 ** 30, -10 ** 30),
    "slot": ("0", "", -1, 3, 16, 10 ** 30, -10 ** 30),
    "place": ("0", "p0", "", -1, 40, 41, 10 ** 30, -10 ** 30),
    "static": (0, 1, "", "absent", "box", "main", "value", "num"),
    "function": (0, 1, "", "absent", "box", "best", "value", "num"),
    "shape": (0, 1, "", "absent", "best", "main", "value", "num", "mixed"),
    "record": (0, "", "absent", "row", "look", "tie", "best", "main", "num"),
    "array": (0, "", "absent", "box", "look", "tie", "best", "main", "num"),
    "weak": (0, "", "absent", "box", "row", "tie", "best", "main", "num"),
    "pair": (0, "", "absent", "box", "row", "look", "best", "main", "num"),
    "field": (0, 1, "", "absent", "box", "item", "target", "key", "best", "main", "num"),
}


class BodiesTest(BadProgramTest):

    def program_with(self, instruction, place):
        body = EVERY[:place] + (instruction,) + EVERY[place + 1:]
        return SHAPES, STATICS, (FUNCTIONS[0][:4] + (body,), FUNCTIONS[1])

    def instruction_refused(self, instruction, place, why):
        self.refused(self.program_with(instruction, place), "body", 0, place, why)

    def test_every_operation(self):
        self.accepted((SHAPES, STATICS, FUNCTIONS))

    def test_wrong_numbers_of_operands(self):
        for place, instruction in enumerate(EVERY):
            for length in range(1, 6):
                wrong = (instruction + (0, 0, 0, 0))[:length]
                if length != len(instruction):
                    self.instruction_refused(wrong, place, "operation")
                    self.instruction_refused((wrong + ("box",) * 4)[:length], place, "operation")

    def test_no_operation(self):
        for wrong in ((), ("",), ("Num", 1), ("number", 1), ("end",), ("record", "box"), ("any",), (0,), (1,), (39,)):
            self.instruction_refused(wrong, 0, "operation")
            self.instruction_refused(wrong, 39, "operation")

    def test_wrong_operands(self):
        for place, instruction in enumerate(EVERY):
            for index, sort in enumerate(OPERANDS[instruction[0]], start=1):
                for operand in WRONG[sort]:
                    wrong = instruction[:index] + (operand,) + instruction[index + 1:]
                    self.instruction_refused(wrong, place, "operand")

    def test_right_operands_at_the_edges(self):
        place = {instruction[0]: place for place, instruction in enumerate(EVERY)}
        for instruction in (
            ("num", 0), ("num", 2147483647), ("num", -2147483648), ("load", 0), ("load", 2), ("store", 0),
            ("jump", 0), ("jump", 39), ("when", 0), ("when", 17), ("fetch", "kept"), ("keep", "best"),
            ("call", "main"), ("nil", "box"), ("nil", "bare"), ("nil", "row"), ("nil", "look"), ("nil", "tie"),
            ("make", "box"), ("get", "box", "next"),
        ):
            self.accepted(self.program_with(instruction, place[instruction[0]]))

    def test_a_field_of_another_record(self):
        shapes = (("one", "record", (("a", "num"),)), ("two", "record", (("b", "num"),)))
        for record, field in (("one", "b"), ("two", "a")):
            for word in ("get", "put"):
                parts = (shapes, (), (("main", (), None, 0, (("halt",), (word, record, field))),))
                self.refused(parts, "body", 0, 1, "operand")
        self.accepted((shapes, (), (("main", (), None, 0, (("get", "one", "a"), ("put", "two", "b"))),)))

    def test_a_truth_is_no_integer(self):
        self.instruction_refused(("num", True), 0, "operand")
        self.instruction_refused(("load", False), 12, "operand")
        self.instruction_refused(("jump", False), 16, "operand")

    def test_both_operands_wrong(self):
        self.instruction_refused(("get", "row", "item"), 26, "operand")
        self.instruction_refused(("get", 0, 0), 26, "operand")

    def test_slots_are_those_of_the_function(self):
        functions = (("main", (), None, 0, HALT), ("work", (), None, 16, (("load", 15),)))
        self.accepted(((), (), functions))
        self.refused(((), (), (functions[0], ("work", (), None, 15, (("load", 15),)))), "body", 1, 0, "operand")
        self.refused(((), (), (("main", (), None, 0, (("load", 0),)), functions[1])), "body", 0, 0, "operand")

    def test_places_are_those_of_the_function(self):
        long = ("work", (), None, 0, HALT * 199 + (("jump", 199),))
        self.accepted(((), (), (MAIN, long)))
        self.refused(((), (), (MAIN, ("work", (), None, 0, (("jump", 1),)))), "body", 1, 0, "operand")
        self.refused(((), (), (("main", (), None, 0, (("when", 1),)), long)), "body", 0, 0, "operand")

    def test_operation_is_told_before_operand(self):
        self.refused(simple([("num", "5", 5)]), "body", 0, 0, "operation")
        self.refused(simple([("get", 7)]), "body", 0, 0, "operation")


def spoil(parts, index, number, change):
    """Changes some entries of one shape, static or function."""
    for entry, value in change.items():
        parts[index][number][entry] = value


class OrderTest(BadProgramTest):
    """All pairs of faults that stand in different parts: the first one in the order of the steps is told."""

    # Each has its key in the order of the document: step, number, place.
    FAULTS = (
        ((1, 0, 0), ("program", 0, -1, "many"), None),
        ((2, 1, 0), ("shape", 1, -1, "name"), (0, 1, {0: "num"})),
        ((2, 2, 0), ("shape", 2, -1, "twice"), (0, 2, {0: "s0"})),
        ((2, 3, 0), ("shape", 3, -1, "form"), (0, 3, {1: "list"})),
        ((2, 4, 0), ("shape", 4, -1, "fields"), (0, 4, {2: [["Bad", "num"]]})),
        ((3, 0, 0), ("shape", 0, -1, "kind"), (0, 0, {2: [["a", "list"]]})),
        ((3, 5, 0), ("shape", 5, -1, "kind"), (0, 5, {2: [["a", "mixed"]]})),
        ((4, 0, 0), ("static", 0, -1, "kind"), (1, 0, {1: "unset"})),
        ((4, 1, 0), ("static", 1, -1, "name"), (1, 1, {0: "9"})),
        ((4, 2, 0), ("static", 2, -1, "twice"), (1, 2, {0: "s0"})),
        ((5, 0, 0), ("function", 0, -1, "entry"), (2, 0, {2: "num"})),
        ((5, 1, 0), ("function", 1, -1, "body"), (2, 1, {4: []})),
        ((5, 2, 0), ("function", 2, -1, "slots"), (2, 2, {3: 17})),
        ((5, 3, 0), ("function", 3, -1, "kind"), (2, 3, {2: "list"})),
        ((5, 4, 0), ("function", 4, -1, "twice"), (2, 4, {0: "f0"})),
        ((5, 5, 0), ("function", 5, -1, "name"), (2, 5, {0: ""})),
        ((6, 0, 2), ("body", 0, 2, "operand"), (2, 0, {4: [["halt"], ["halt"], ["load", 0]]})),
        ((6, 6, 1), ("body", 6, 1, "operation"), (2, 6, {4: [["halt"], ["stop"]]})),
        ((6, 7, 0), ("body", 7, 0, "operand"), (2, 7, {4: [["jump", -1], ["stop"]]})),
    )

    def sound(self):
        shapes = [[f"s{k}", "record", [["a", "num"]]] for k in range(6)]
        statics = [[f"s{k}", "num"] for k in range(3)]
        functions = [[f"f{k}", [], None, 0, [["halt"]]] for k in range(8)]
        return [shapes, statics, functions]

    def test_sound(self):
        self.assertEqual(len(make_program(*self.sound()).functions), 8)

    def test_pairs(self):
        for some in itertools.chain(itertools.combinations(self.FAULTS, 1), itertools.combinations(self.FAULTS, 2)):
            parts = self.sound()
            for _, _, how in some:
                if how is None:
                    parts[1].extend([f"more{k}", "num"] for k in range(18))
                else:
                    spoil(parts, *how)
            _, told, _ = min(some, key=lambda fault: fault[0])
            self.refused(tuple(parts), *told)

    def test_all_at_once(self):
        parts = self.sound()
        told = list(self.FAULTS[1:])
        for _, _, how in told:
            spoil(parts, *how)
        self.refused(tuple(parts), *told[0][1])

    def test_places_of_one_body(self):
        self.refused(simple([("halt",), ("load", 0), ("stop",)]), "body", 0, 1, "operand")
        self.refused(simple([("halt",), ("stop",), ("load", 0)]), "body", 0, 1, "operation")


class ExamplesTest(BadProgramTest):

    def test_examples(self):
        shapes = [("node", "record", [("next", "node")]), ("look", "weak", [("target", "num")])]
        functions = [("main", [], None, 0, [("halt",)])]
        self.refused((shapes, [("first", "list")], functions), "shape", 1, -1, "kind")
        body = [("load", 0), ("load", 1), ("add", 2)]
        self.refused(([], [], [("main", ["num"], None, 1, body)]), "body", 0, 1, "operand")


if __name__ == "__main__":
    unittest.main()
