"""Packs a program into octets."""

from quietbroom.octets import encode_number
from quietbroom.operations import OPERANDS, OPERATIONS
from quietbroom.shapes import FORMS


def pack(program):
    """The octets of a program."""
    octets = []
    for number in shape_codes(program) + static_codes(program) + function_codes(program):
        octets.extend(encode_number(number))
    return tuple(octets)


def text_codes(text):
    """The integers of a text: its length and its characters."""
    return [len(text)] + [ord(sign) for sign in text]


def kind_code(program, kind):
    """The integer of a kind."""
    if kind == "num":
        return 0
    return program.shape_number(kind) + 1


def shape_codes(program):
    """The integers of the shapes, behind their number."""
    codes = [len(program.shapes)]
    for shape in program.shapes:
        codes.extend(text_codes(shape.name))
        codes.append(FORMS.index(shape.form))
        if shape.form == "record":
            codes.append(len(shape.fields))
        for name, kind in shape.fields:
            if shape.form == "record":
                codes.extend(text_codes(name))
            codes.append(kind_code(program, kind))
    return codes


def static_codes(program):
    """The integers of the statics, behind their number."""
    codes = [len(program.statics)]
    for name, kind in program.statics:
        codes.extend(text_codes(name))
        codes.append(kind_code(program, kind))
    return codes


def function_codes(program):
    """The integers of the functions, behind their number: all heads, then all bodies."""
    codes = [len(program.functions)]
    for function in program.functions:
        codes.extend(head_codes(program, function))
    for function in program.functions:
        for instruction in function.body:
            codes.extend(instruction_codes(program, instruction))
    return codes


def head_codes(program, function):
    """The integers of a function but for its instructions."""
    codes = text_codes(function.name)
    codes.append(len(function.params))
    codes.extend([kind_code(program, kind) for kind in function.params])
    if function.result is None:
        codes.append(0)
    else:
        codes.append(1 + kind_code(program, function.result))
    codes.extend([function.slots, len(function.body)])
    return codes


def instruction_codes(program, instruction):
    """The integers of an instruction."""
    codes = [OPERATIONS.index(instruction[0])]
    for index, sort in enumerate(OPERANDS[instruction[0]], start=1):
        if sort == "field":
            fields = program.shape(instruction[index - 1]).fields
            codes.append([name for name, _ in fields].index(instruction[index]))
        else:
            codes.append(operand_code(program, sort, instruction[index]))
    return codes


def operand_code(program, sort, operand):
    """The integer of an operand of any sort but a field."""
    if sort == "number":
        if operand >= 0:
            return 2 * operand
        return -2 * operand - 1
    if sort in ("slot", "place"):
        return operand
    if sort == "static":
        return program.static_number(operand)
    if sort == "function":
        return program.function_number(operand)
    return program.shape_number(operand)
