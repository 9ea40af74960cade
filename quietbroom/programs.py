"""Programs and their functions."""

from quietbroom.faults import refuse_faults
from quietbroom.sequences import frozen
from quietbroom.shapes import Shape


class Function:
    """A function of a program: its parameters and result as kinds, its slots, its instructions."""

    def __init__(self, name, params, result, slots, body):
        self.name = name
        self.params = frozen(params)
        self.result = result
        self.slots = slots
        self.body = frozen(body)


class Program:
    """Shapes, statics and functions; the first function is the entry."""

    def __init__(self, shapes, statics, functions):
        self.shapes = tuple([Shape(name, form, fields) for name, form, fields in shapes])
        self.statics = frozen(statics)
        self.functions = tuple([Function(*parts) for parts in functions])
        self._shape_numbers = numbered([shape.name for shape in self.shapes])
        self._static_numbers = numbered([name for name, _ in self.statics])
        self._function_numbers = numbered([function.name for function in self.functions])

    def data(self):
        """The shapes, statics and functions as make_program takes them."""
        shapes = tuple([(shape.name, shape.form, shape.fields) for shape in self.shapes])
        functions = tuple([function_data(function) for function in self.functions])
        return shapes, self.statics, functions

    def shape(self, name):
        """The shape with this name."""
        return self.shapes[self._shape_numbers[name]]

    def function(self, name):
        """The function with this name."""
        return self.functions[self._function_numbers[name]]

    def shape_number(self, name):
        """The number of the shape with this name."""
        return self._shape_numbers[name]

    def static_number(self, name):
        """The number of the static with this name."""
        return self._static_numbers[name]

    def function_number(self, name):
        """The number of the function with this name."""
        return self._function_numbers[name]


def numbered(names):
    """For each name its number."""
    return {name: number for number, name in enumerate(names)}


def function_data(function):
    """A function as make_program takes it."""
    return function.name, function.params, function.result, function.slots, function.body


def make_program(shapes, statics, functions):
    """The program of these parts; raises BadProgram if they make none."""
    parts = (frozen(shapes), frozen(statics), frozen(functions))
    refuse_faults(*parts)
    return Program(*parts)
