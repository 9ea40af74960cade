"""Points 1, 10 and 12: programs and functions."""

import copy
import unittest

from quietbroom.programs import Function, Program, make_program
from quietbroom.shapes import Shape
from tests.samples import FUNCTIONS, SHAPES, STATICS, as_lists, random_parts, simple

PARTS = (SHAPES, STATICS, FUNCTIONS)


def only_tuples(value):
    """Tells whether a value has no lists in it."""
    if isinstance(value, tuple):
        return all(only_tuples(part) for part in value)
    return value is None or isinstance(value, (int, str))


class ProgramTest(unittest.TestCase):

    def setUp(self):
        self.program = make_program(*PARTS)

    def test_classes(self):
        self.assertIs(type(self.program), Program)
        self.assertEqual([type(shape) for shape in self.program.shapes], [Shape] * 5)
        self.assertEqual([type(function) for function in self.program.functions], [Function] * 2)

    def test_shapes(self):
        self.assertIs(type(self.program.shapes), tuple)
        shapes = [(shape.name, shape.form, shape.fields) for shape in self.program.shapes]
        self.assertEqual(tuple(shapes), SHAPES)

    def test_statics(self):
        self.assertEqual(self.program.statics, STATICS)

    def test_functions(self):
        self.assertIs(type(self.program.functions), tuple)
        for function, parts in zip(self.program.functions, FUNCTIONS):
            own = (function.name, function.params, function.result, function.slots, function.body)
            self.assertEqual(own, parts)

    def test_data(self):
        self.assertEqual(self.program.data(), PARTS)
        self.assertEqual(make_program(*self.program.data()).data(), self.program.data())

    def test_by_name_of_the_program(self):
        for number, shape in enumerate(self.program.shapes):
            self.assertIs(self.program.shape(shape.name), shape)
            self.assertIs(self.program.shape(name=shape.name), shape)
            self.assertEqual(self.program.shape_number(shape.name), number)
            self.assertEqual(self.program.shape_number(name=shape.name), number)
        for number, (name, _) in enumerate(STATICS):
            self.assertEqual(self.program.static_number(name), number)
            self.assertEqual(self.program.static_number(name=name), number)
        for number, function in enumerate(self.program.functions):
            self.assertIs(self.program.function(function.name), function)
            self.assertIs(self.program.function(name=function.name), function)
            self.assertEqual(self.program.function_number(function.name), number)
            self.assertEqual(self.program.function_number(name=function.name), number)

    def test_families_are_of_their_own(self):
        shapes = [("one", "record", [("one", "one")]), ("two", "weak", [("target", "one")])]
        statics = [("two", "num"), ("one", "one")]
        body = [("make", "one"), ("get", "one", "one"), ("keep", "one"), ("call", "two"), ("call", "one"), ("halt",)]
        functions = [("two", [], None, 0, body), ("three", [], None, 0, body), ("one", [], None, 0, body)]
        program = make_program(shapes, statics, functions)
        numbers = (program.shape_number("one"), program.static_number("one"), program.function_number("one"))
        self.assertEqual(numbers, (0, 1, 2))
        self.assertEqual((program.shape("two").form, program.function("two").name), ("weak", "two"))

    def test_lists_are_taken_and_tuples_returned(self):
        program = make_program(*as_lists(PARTS))
        self.assertEqual(program.data(), PARTS)
        self.assertTrue(only_tuples(program.data()))
        self.assertTrue(only_tuples(program.statics))
        for function in program.functions:
            self.assertTrue(only_tuples((function.params, function.result, function.body)))

    def test_arguments_by_name(self):
        shapes, statics, functions = PARTS
        self.assertEqual(make_program(functions=functions, statics=statics, shapes=shapes).data(), PARTS)

    def test_arguments_stay_as_they_are(self):
        parts = as_lists(PARTS)
        before = copy.deepcopy(parts)
        make_program(*parts)
        self.assertEqual(parts, before)

    def test_later_changes_have_no_effect(self):
        parts = as_lists(PARTS)
        program = make_program(*parts)
        shapes, statics, functions = parts
        shapes[0][2][0][1] = "row"
        shapes[0][2].append(["more", "num"])
        statics[0][1] = "box"
        functions[0][1].append("num")
        functions[0][4][0][1] = 8
        functions[0][4].append(["back"])
        for part in parts:
            part.pop()
        self.assertEqual(program.data(), PARTS)
        self.assertEqual(program.shape("box").fields, SHAPES[0][2])
        self.assertEqual(program.function("main").body, FUNCTIONS[0][4])

    def test_the_least_program(self):
        parts = simple([("halt",)])
        program = make_program(*parts)
        self.assertEqual((program.shapes, program.statics, program.data()), ((), (), parts))

    def test_entry_with_parameters(self):
        functions = (("main", ("num", "num"), None, 2, (("back",),)),)
        self.assertEqual(make_program((), (), functions).functions[0].params, ("num", "num"))

    def test_all_sorts_of_programs(self):
        for seed in range(60):
            parts = random_parts(seed)
            self.assertEqual(make_program(*parts).data(), parts)
            self.assertEqual(make_program(*as_lists(parts)).data(), parts)


if __name__ == "__main__":
    unittest.main()
