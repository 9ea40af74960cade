"""Point 19: where the control goes from a place."""

import unittest

from quietbroom.flow import runs_off, successors
from quietbroom.programs import make_program
from tests.samples import EVERY, FUNCTIONS, SHAPES, STATICS, simple

NEXT_ONLY = [place for place, (word, *_) in enumerate(EVERY) if word not in ("jump", "when", "back", "halt")]


def function_of(body):
    """A function with this body."""
    return make_program(*simple(body)).functions[0]


class SuccessorsTest(unittest.TestCase):

    def setUp(self):
        self.every = make_program(SHAPES, STATICS, FUNCTIONS).functions[0]

    def goes(self, function, place, wanted, off):
        self.assertEqual(successors(function, place), wanted)
        self.assertIs(type(successors(function, place)), tuple)
        self.assertIs(runs_off(function, place), off)

    def test_every_operation_in_the_middle(self):
        self.assertEqual(len(NEXT_ONLY), 36)
        for place in NEXT_ONLY[:-1]:
            self.goes(self.every, place, (place + 1,), False)
        self.goes(self.every, 16, (3,), False)
        self.goes(self.every, 17, (18, 39), False)
        self.goes(self.every, 19, (), False)
        self.goes(self.every, 20, (), False)

    def test_every_operation_at_the_last_place(self):
        for place, instruction in enumerate(EVERY):
            body = (("halt",),) * 39 + (instruction,)
            program = make_program(SHAPES, STATICS, (FUNCTIONS[0][:4] + (body,), FUNCTIONS[1]))
            wanted = {16: ((3,), False), 17: ((39,), True), 19: ((), False), 20: ((), False)}.get(place, ((), True))
            self.goes(program.functions[0], 39, *wanted)

    def test_jump(self):
        self.goes(function_of([("jump", 0)]), 0, (0,), False)
        function = function_of([("jump", 1), ("jump", 3), ("jump", 0), ("jump", 3)])
        for place, wanted in enumerate(((1,), (3,), (0,), (3,))):
            self.goes(function, place, wanted, False)

    def test_when(self):
        function = function_of([("when", 1), ("when", 1), ("when", 0), ("when", 4), ("when", 4)])
        self.goes(function, 0, (1,), False)
        self.goes(function, 1, (2, 1), False)
        self.goes(function, 2, (3, 0), False)
        self.goes(function, 3, (4,), False)
        self.goes(function, 4, (4,), True)

    def test_the_next_place_comes_first(self):
        function = function_of([("halt",), ("when", 3), ("when", 0), ("when", 2)])
        self.goes(function, 1, (2, 3), False)
        self.goes(function, 2, (3, 0), False)
        self.goes(function, 3, (2,), True)

    def test_a_body_of_one_instruction(self):
        self.goes(function_of([("when", 0)]), 0, (0,), True)
        self.goes(function_of([("num", 5)]), 0, (), True)
        self.goes(function_of([("back",)]), 0, (), False)
        self.goes(function_of([("halt",)]), 0, (), False)

    def test_a_body_of_two_hundred(self):
        function = function_of([("when", 199)] * 200)
        self.goes(function, 0, (1, 199), False)
        self.goes(function, 198, (199,), False)
        self.goes(function, 199, (199,), True)

    def test_other_functions_do_not_matter(self):
        program = make_program((), (), (("main", (), None, 0, (("num", 1),)), ("work", (), None, 0, (("halt",),) * 9)))
        self.goes(program.functions[0], 0, (), True)
        self.goes(program.functions[1], 8, (), False)

    def test_by_name(self):
        function = function_of([("when", 0), ("halt",)])
        self.assertEqual(successors(place=0, function=function), (1, 0))
        self.assertIs(runs_off(place=0, function=function), False)

    def test_example(self):
        function = function_of([("num", 1), ("when", 2), ("num", 0), ("when", 0)])
        self.assertEqual((successors(function, 1), successors(function, 3), runs_off(function, 3)), ((2,), (0,), True))


if __name__ == "__main__":
    unittest.main()
