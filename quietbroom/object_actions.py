"""The operations on objects.

An action is what it is in frame_actions. A machine that it is passed can make
an object, read and write payload words, tell length and shape, tell whether
two references lead to the same object, and settle.
"""

from quietbroom.frame_actions import exchange
from quietbroom.words import NIL, number_of, number_word

MOST_ITEMS = 1000
FIXED_PLACES = {"peek": 0, "key": 0, "value": 1}


def truth_word(truth):
    """The word of 1 if something holds, otherwise that of 0."""
    return number_word(1 if truth else 0)


def named_place(program, instruction):
    """The payload place of what the instruction reads or writes by name."""
    if instruction[0] in FIXED_PLACES:
        return FIXED_PLACES[instruction[0]]
    names = [name for name, _ in program.shape(instruction[1]).fields]
    return names.index(instruction[2])


def index_trap(machine, array, index):
    """Why an array has no such item, or None."""
    if array == NIL:
        return "nil"
    if not 0 <= index < machine.length(array):
        return "index"
    return None


def act_nil(machine, frame, instruction):
    """Puts nil."""
    frame.stack.append(NIL)


def act_empty(machine, frame, instruction):
    """Puts 1 for nil, otherwise 0."""
    exchange(frame.stack, 1, [truth_word(frame.stack[-1] == NIL)])


def act_twin(machine, frame, instruction):
    """Puts 1 if two references lead to the same object or both are nil, otherwise 0."""
    one, two = frame.stack[-2:]
    exchange(frame.stack, 2, [truth_word(machine.is_same(one, two))])


def act_make(machine, frame, instruction):
    """Makes a blank record."""
    word = machine.new_object(machine.program.shape(instruction[1]), 0)
    if word is None:
        return "full"
    frame.stack.append(word)
    return None


def act_array(machine, frame, instruction):
    """Makes an array of blank items."""
    length = number_of(frame.stack[-1])
    if not 0 <= length <= MOST_ITEMS:
        return "index"
    word = machine.new_object(machine.program.shape(instruction[1]), length)
    if word is None:
        return "full"
    exchange(frame.stack, 1, [word])
    return None


def act_wrap(machine, frame, instruction):
    """Makes a weak cell or a pair that holds the values it takes."""
    shape = machine.program.shape(instruction[1])
    count = len(shape.fields)
    if frame.stack[-count] == NIL:
        return "nil"
    word = machine.new_object(shape, 0)
    if word is None:
        return "full"
    # Room may be found by changing words on the stack, so the values are read behind that.
    for place, value in enumerate(frame.stack[-count:]):
        machine.write(word, place, value)
    exchange(frame.stack, count, [word])
    return None


def act_read(machine, frame, instruction):
    """Puts what a record, a weak cell or a pair holds at a named place."""
    if frame.stack[-1] == NIL:
        return "nil"
    place = named_place(machine.program, instruction)
    exchange(frame.stack, 1, [machine.read(frame.stack[-1], place)])
    return None


def act_put(machine, frame, instruction):
    """Stores a value in a field of a record."""
    record, value = frame.stack[-2:]
    if record == NIL:
        return "nil"
    machine.write(record, named_place(machine.program, instruction), value)
    exchange(frame.stack, 2, [])
    return None


def act_at(machine, frame, instruction):
    """Puts an item of an array."""
    array, index = frame.stack[-2:]
    trap = index_trap(machine, array, number_of(index))
    if trap is None:
        exchange(frame.stack, 2, [machine.read(array, number_of(index))])
    return trap


def act_set(machine, frame, instruction):
    """Stores a value in an item of an array."""
    array, index, value = frame.stack[-3:]
    trap = index_trap(machine, array, number_of(index))
    if trap is None:
        machine.write(array, number_of(index), value)
        exchange(frame.stack, 3, [])
    return trap


def act_length(machine, frame, instruction):
    """Puts the number of items of an array."""
    if frame.stack[-1] == NIL:
        return "nil"
    exchange(frame.stack, 1, [number_word(machine.length(frame.stack[-1]))])
    return None


def act_watch(machine, frame, instruction):
    """Moves a reference to the watched list."""
    if frame.stack[-1] == NIL:
        return "nil"
    machine.standing.watched.append(frame.stack.pop())
    return None


def act_parted(machine, frame, instruction):
    """Moves the first parted reference to an object of the shape to the stack, or puts nil."""
    parted = machine.standing.parted
    names = [machine.shape_name(word) for word in parted]
    if instruction[1] in names:
        frame.stack.append(parted.pop(names.index(instruction[1])))
    else:
        frame.stack.append(NIL)


def act_settle(machine, frame, instruction):
    """Settles."""
    machine.settle()


OBJECT_ACTIONS = {
    "nil": act_nil,
    "empty": act_empty,
    "twin": act_twin,
    "make": act_make,
    "get": act_read,
    "put": act_put,
    "array": act_array,
    "at": act_at,
    "set": act_set,
    "length": act_length,
    "weaken": act_wrap,
    "peek": act_read,
    "pair": act_wrap,
    "key": act_read,
    "value": act_read,
    "watch": act_watch,
    "parted": act_parted,
    "settle": act_settle,
}
