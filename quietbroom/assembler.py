"""Reads a program from assembler text."""

from quietbroom.errors import BadText
from quietbroom.line_faults import ARROW, INTEGER_SORTS, inside_fault, is_label, outside_fault
from quietbroom.operations import OPERANDS
from quietbroom.programs import make_program
from quietbroom.shapes import FIXED_FIELDS


class Routine:
    """A function as far as it was read, with labels in place of places."""

    def __init__(self, name, params, result, slots):
        self.name = name
        self.params = params
        self.result = result
        self.slots = slots
        self.labels = {}
        self.body = []
        self.lines = []


class Draft:
    """A program as far as it was read; inside tells whether the last routine is still open."""

    def __init__(self):
        self.shapes = []
        self.statics = []
        self.routines = []
        self.inside = False


def assemble(text):
    """The program of an assembler text; raises BadText or BadProgram."""
    lines = text.split("\n")
    draft = Draft()
    for line, row in enumerate(lines, start=1):
        words = [word for word in row.split(" ") if word]
        if words and not words[0].startswith("#"):
            read_line(draft, line, words)
    if draft.inside:
        raise BadText(len(lines) + 1, "open")
    functions = [function_parts(routine) for routine in draft.routines]
    return make_program(draft.shapes, draft.statics, functions)


def read_line(draft, line, words):
    """Takes the words of a line into the draft."""
    if draft.inside:
        why = inside_fault(words, draft.routines[-1].labels)
    else:
        why = outside_fault(words)
    if why is not None:
        raise BadText(line, why)
    if draft.inside:
        read_inside(draft, line, words)
    else:
        read_outside(draft, words)


def read_outside(draft, words):
    """Takes a sound line outside of a function into the draft."""
    head = words[0]
    if head == "function":
        draft.routines.append(new_routine(words))
        draft.inside = True
    elif head == "static":
        draft.statics.append((words[1], words[2]))
    elif head == "record":
        fields = [tuple(word.split(":")) for word in words[2:]]
        draft.shapes.append((words[1], head, fields))
    else:
        draft.shapes.append((words[1], head, list(zip(FIXED_FIELDS[head], words[2:]))))


def new_routine(words):
    """The routine that a function's line begins."""
    params, result = words[3:], None
    if ARROW in params:
        result = params[-1]
        params = params[:-2]
    return Routine(words[1], params, result, int(words[2]))


def read_inside(draft, line, words):
    """Takes a sound line inside of a function into the draft."""
    routine = draft.routines[-1]
    if words[0] == "end":
        draft.inside = False
    elif is_label(words[0]):
        routine.labels[words[0][:-1]] = len(routine.body)
    else:
        routine.body.append(instruction_of(words))
        routine.lines.append(line)


def instruction_of(words):
    """The instruction of a line, with a label in place of a place."""
    operands = []
    for sort, word in zip(OPERANDS[words[0]], words[1:]):
        if sort in INTEGER_SORTS:
            operands.append(int(word))
        else:
            operands.append(word)
    return (words[0], *operands)


def function_parts(routine):
    """A routine as make_program takes functions; raises BadText for a label that it does not have."""
    body = []
    for line, instruction in zip(routine.lines, routine.body):
        if "place" in OPERANDS[instruction[0]]:
            label = instruction[1]
            if label not in routine.labels:
                raise BadText(line, "label")
            body.append((instruction[0], routine.labels[label]))
        else:
            body.append(instruction)
    return routine.name, routine.params, routine.result, routine.slots, body
