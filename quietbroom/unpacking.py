"""Reads a program back from octets."""

from quietbroom.errors import BadCode
from quietbroom.faults import MOST_FIELDS, MOST_FUNCTIONS, MOST_INSTRUCTIONS, MOST_PARAMS
from quietbroom.faults import MOST_SHAPES, MOST_SLOTS, MOST_STATICS
from quietbroom.octets import decode_number
from quietbroom.operations import OPERANDS, OPERATIONS
from quietbroom.programs import make_program
from quietbroom.shapes import FIXED_FIELDS, FORMS, LETTERS_AND_DIGITS, LONGEST_NAME
from quietbroom.words import NUMBER_COUNT

FIRST_SIGN = 33
LAST_SIGN = 126
NO_SIGN = "?"


class Reader:
    """Reads packed integers one behind another; at is the index of the next one."""

    def __init__(self, octets):
        self.octets = octets
        self.at = 0

    def take(self, least, most):
        """The next integer, from least to most; raises BadCode with its first index."""
        try:
            n, behind = decode_number(self.octets, self.at)
        except BadCode:
            raise BadCode(self.at) from None
        if not least <= n <= most:
            raise BadCode(self.at)
        self.at = behind
        return n

    def pick(self, choices):
        """The next integer, the index of a choice that is not None; raises BadCode likewise."""
        first = self.at
        index = self.take(0, len(choices) - 1)
        if choices[index] is None:
            raise BadCode(first)
        return index


def unpack(octets):
    """The program of packed code; raises BadCode or BadProgram."""
    reader = Reader(octets)
    shapes = take_shapes(reader)
    kinds = ["num"] + [name for name, _, _ in shapes]
    static_count = reader.take(0, MOST_STATICS)
    statics = [take_static(reader, kinds) for _ in range(static_count)]
    function_count = reader.take(1, MOST_FUNCTIONS)
    heads = [take_head(reader, kinds) for _ in range(function_count)]
    names = name_choices(shapes, statics, heads)
    fields = [[field for field, _ in parts] for _, _, parts in shapes]
    functions = [take_function(reader, head, names, fields) for head in heads]
    if reader.at < len(octets):
        raise BadCode(reader.at)
    return make_program(shapes, statics, functions)


def take_text(reader):
    """The next text, which is to be a name."""
    # No name has another sign, so one stands for them all: make_program refuses each alike.
    signs = {ord(sign): sign for sign in LETTERS_AND_DIGITS}
    length = reader.take(1, LONGEST_NAME)
    return "".join([signs.get(reader.take(FIRST_SIGN, LAST_SIGN), NO_SIGN) for _ in range(length)])


def take_shapes(reader):
    """All shapes."""
    count = reader.take(0, MOST_SHAPES)
    coded = [take_coded_shape(reader, count) for _ in range(count)]
    # A field may have the kind of a later shape, so the kinds get their names at the end.
    kinds = ["num"] + [name for name, _, _ in coded]
    return [(name, form, [(field, kinds[code]) for field, code in fields]) for name, form, fields in coded]


def take_coded_shape(reader, count):
    """A shape with the codes of kinds in place of the kinds; count is how many shapes there are."""
    name = take_text(reader)
    form = FORMS[reader.pick(FORMS)]
    fields = []
    if form == "record":
        field_count = reader.take(0, MOST_FIELDS)
        for _ in range(field_count):
            field = take_text(reader)
            fields.append((field, reader.take(0, count)))
    else:
        for field in FIXED_FIELDS[form]:
            fields.append((field, reader.take(0, count)))
    return name, form, fields


def take_static(reader, kinds):
    """A static."""
    name = take_text(reader)
    return name, kinds[reader.pick(kinds)]


def take_head(reader, kinds):
    """A function with the length of its body in place of the body."""
    name = take_text(reader)
    param_count = reader.take(0, MOST_PARAMS)
    params = [kinds[reader.pick(kinds)] for _ in range(param_count)]
    result = None
    code = reader.take(0, len(kinds))
    if code > 0:
        result = kinds[code - 1]
    slots = reader.take(0, MOST_SLOTS)
    length = reader.take(1, MOST_INSTRUCTIONS)
    return name, params, result, slots, length


def name_choices(shapes, statics, heads):
    """For each sort of operand that is the same in all functions what an operand may be, by its code."""
    names = {form: [name if own == form else None for name, own, _ in shapes] for form in FORMS}
    names["shape"] = [name for name, _, _ in shapes]
    names["static"] = [name for name, _ in statics]
    names["function"] = [head[0] for head in heads]
    return names


def take_function(reader, head, names, fields):
    """A function with its body."""
    name, params, result, slots, length = head
    choices = {"slot": list(range(slots)), "place": list(range(length)), **names}
    body = [take_instruction(reader, choices, fields) for _ in range(length)]
    return name, params, result, slots, body


def take_instruction(reader, choices, fields):
    """An instruction; fields are the names of the fields of each shape."""
    operation = OPERATIONS[reader.pick(OPERATIONS)]
    instruction = [operation]
    index = 0
    for sort in OPERANDS[operation]:
        if sort == "number":
            instruction.append(coded_number(reader.take(0, NUMBER_COUNT - 1)))
        elif sort == "field":
            # The operand before was the record, so index is still its number.
            instruction.append(fields[index][reader.pick(fields[index])])
        else:
            index = reader.pick(choices[sort])
            instruction.append(choices[sort][index])
    return instruction


def coded_number(code):
    """The number that is packed as this integer."""
    if code & 1:
        return -(code + 1) // 2
    return code // 2
