"""Refuses shapes, statics and functions that make no program."""

from quietbroom.errors import BadProgram
from quietbroom.operations import OPERANDS
from quietbroom.shapes import FIXED_FIELDS, FORMS, is_name
from quietbroom.words import MAX_NUMBER, MIN_NUMBER

MOST_SHAPES = 40
MOST_STATICS = 20
MOST_FUNCTIONS = 20
MOST_FIELDS = 8
MOST_PARAMS = 6
MOST_SLOTS = 16
MOST_INSTRUCTIONS = 200


def refuse_faults(shapes, statics, functions):
    """Raises BadProgram for the first fault, in the order of the steps of point 11."""
    refuse_counts(shapes, statics, functions)
    refuse_shapes(shapes)
    shape_names = [name for name, _, _ in shapes]
    refuse_field_kinds(shapes, shape_names)
    refuse_statics(statics, shape_names)
    refuse_functions(functions, shape_names)
    refuse_bodies(shapes, statics, functions)


def refuse_counts(shapes, statics, functions):
    """Step 1: how many shapes, statics and functions there are."""
    if len(shapes) > MOST_SHAPES or len(statics) > MOST_STATICS or len(functions) > MOST_FUNCTIONS:
        raise BadProgram("program", 0, -1, "many")
    if not functions:
        raise BadProgram("program", 0, -1, "empty")


def refuse_shapes(shapes):
    """Step 2: the shapes but for the kinds of their fields."""
    earlier = {}
    for number, (name, form, fields) in enumerate(shapes):
        why = name_fault(name, earlier)
        if why is None:
            why = form_fault(form, [field for field, _ in fields])
        if why is not None:
            raise BadProgram("shape", number, -1, why)
        earlier[name] = True


def name_fault(name, earlier):
    """Why the name cannot stand behind the earlier ones of its family, or None."""
    if not is_name(name):
        return "name"
    if name in earlier:
        return "twice"
    return None


def form_fault(form, field_names):
    """Why a shape cannot have this form with fields of these names, or None."""
    if form not in FORMS:
        return "form"
    if form == "record":
        fine = are_record_fields(field_names)
    else:
        fine = tuple(field_names) == FIXED_FIELDS[form]
    if not fine:
        return "fields"
    return None


def are_record_fields(field_names):
    """Tells whether a record may have fields of these names."""
    if len(field_names) > MOST_FIELDS or not all([is_name(name) for name in field_names]):
        return False
    return len(set(field_names)) == len(field_names)


def is_kind(kind, shape_names):
    """Tells whether this is the kind of a number or of one of the shapes."""
    return kind == "num" or kind in shape_names


def refuse_field_kinds(shapes, shape_names):
    """Step 3: the kinds of the fields of the shapes."""
    for number, (_, form, fields) in enumerate(shapes):
        kinds = [kind for _, kind in fields]
        only_shape = form in ("weak", "pair") and kinds[0] == "num"
        if only_shape or not all([is_kind(kind, shape_names) for kind in kinds]):
            raise BadProgram("shape", number, -1, "kind")


def refuse_statics(statics, shape_names):
    """Step 4: the statics."""
    earlier = {}
    for number, (name, kind) in enumerate(statics):
        why = name_fault(name, earlier)
        if why is None and not is_kind(kind, shape_names):
            why = "kind"
        if why is not None:
            raise BadProgram("static", number, -1, why)
        earlier[name] = True


def refuse_functions(functions, shape_names):
    """Step 5: the functions but for what stands in their bodies."""
    earlier = {}
    for number, function in enumerate(functions):
        why = name_fault(function[0], earlier)
        if why is None:
            why = head_fault(function, number == 0, shape_names)
        if why is not None:
            raise BadProgram("function", number, -1, why)
        earlier[function[0]] = True


def head_fault(function, is_entry, shape_names):
    """Why a function cannot be as it is, its name and its instructions aside, or None."""
    _, params, result, slots, body = function
    kinds = list(params)
    if result is not None:
        kinds.append(result)
    if not all([is_kind(kind, shape_names) for kind in kinds]):
        return "kind"
    if len(params) > MOST_PARAMS or slots < len(params) or slots > MOST_SLOTS:
        return "slots"
    if is_entry and (result is not None or not all([kind == "num" for kind in params])):
        return "entry"
    if not 1 <= len(body) <= MOST_INSTRUCTIONS:
        return "body"
    return None


def refuse_bodies(shapes, statics, functions):
    """Step 6: the instructions of the functions."""
    names = operand_names(shapes, statics, functions)
    fields = {name: [field for field, _ in parts] for name, _, parts in shapes}
    for number, (_, _, _, slots, body) in enumerate(functions):
        limits = {"number": (MIN_NUMBER, MAX_NUMBER), "slot": (0, slots - 1), "place": (0, len(body) - 1)}
        for place, instruction in enumerate(body):
            if not is_operation(instruction):
                raise BadProgram("body", number, place, "operation")
            if not are_operands(instruction, limits, names, fields):
                raise BadProgram("body", number, place, "operand")


def operand_names(shapes, statics, functions):
    """For each sort of operand that is looked up in the whole program, the names that there are."""
    names = {form: [name for name, own, _ in shapes if own == form] for form in FORMS}
    names["shape"] = [name for name, _, _ in shapes]
    names["static"] = [name for name, _ in statics]
    names["function"] = [function[0] for function in functions]
    return names


def is_operation(instruction):
    """Tells whether the instruction is an operation with as many operands as it has."""
    if not instruction or instruction[0] not in OPERANDS:
        return False
    return len(instruction) - 1 == len(OPERANDS[instruction[0]])


def are_operands(instruction, limits, names, fields):
    """Tells whether each operand of an instruction is of its sort."""
    for index, sort in enumerate(OPERANDS[instruction[0]], start=1):
        operand = instruction[index]
        if sort in limits:
            least, most = limits[sort]
            fine = is_integer(operand) and least <= operand <= most
        elif sort == "field":
            # The record before it was found to be one in the turn before.
            fine = operand in fields[instruction[index - 1]]
        else:
            fine = operand in names[sort]
        if not fine:
            return False
    return True


def is_integer(operand):
    """Tells whether an operand is an integer; True and False are none."""
    return isinstance(operand, int) and not isinstance(operand, bool)
