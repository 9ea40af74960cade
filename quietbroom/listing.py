"""Writes a program as assembler text, in one form."""

from quietbroom.line_faults import ARROW
from quietbroom.operations import OPERANDS


def listing(program):
    """The assembler text of a program."""
    lines = [shape_line(shape) for shape in program.shapes]
    lines.extend([f"static {name} {kind}" for name, kind in program.statics])
    for function in program.functions:
        lines.extend(function_lines(function))
    return "".join([line + "\n" for line in lines])


def shape_line(shape):
    """The line of a shape."""
    words = [shape.form, shape.name]
    for name, kind in shape.fields:
        if shape.form == "record":
            words.append(f"{name}:{kind}")
        else:
            words.append(kind)
    return " ".join(words)


def function_lines(function):
    """The lines of a function, from its head to its end."""
    lines = [head_line(function)]
    named = [instruction[1] for instruction in function.body if names_place(instruction)]
    for place, instruction in enumerate(function.body):
        if place in named:
            lines.append(f"p{place}:")
        lines.append(instruction_line(instruction))
    lines.append("end")
    return lines


def names_place(instruction):
    """Tells whether the operand of the instruction is a place."""
    return "place" in OPERANDS[instruction[0]]


def head_line(function):
    """The line that begins a function."""
    words = ["function", function.name, str(function.slots)]
    words.extend(function.params)
    if function.result is not None:
        words.extend([ARROW, function.result])
    return " ".join(words)


def instruction_line(instruction):
    """The line of an instruction."""
    if names_place(instruction):
        return f"  {instruction[0]} p{instruction[1]}"
    return "  " + " ".join([str(word) for word in instruction])
