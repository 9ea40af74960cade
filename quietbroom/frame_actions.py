"""The operations on numbers, on the stack and on places.

An action executes an instruction of the top frame, whose place is already the
next one. It returns None, or the outcome if the instruction cannot be executed
to its end; then it has changed nothing.
"""

from quietbroom.standings import Frame
from quietbroom.words import number_of, number_word

MOST_FRAMES = 40


def exchange(stack, count, words):
    """Puts words on the stack in place of as many values as count."""
    stack[len(stack) - count:] = words


def act_num(machine, frame, instruction):
    """Puts a number."""
    frame.stack.append(number_word(instruction[1]))


def add(x, y):
    """The sum."""
    return x + y


def sub(x, y):
    """The difference."""
    return x - y


def mul(x, y):
    """The product."""
    return x * y


def less(x, y):
    """1 if x is less, otherwise 0."""
    return 1 if x < y else 0


def same(x, y):
    """1 if both are equal, otherwise 0."""
    return 1 if x == y else 0


COMBINING = {"add": add, "sub": sub, "mul": mul, "less": less, "same": same}


def act_combine(machine, frame, instruction):
    """Puts a number made of two numbers."""
    x, y = [number_of(word) for word in frame.stack[-2:]]
    combine = COMBINING[instruction[0]]
    exchange(frame.stack, 2, [number_word(combine(x, y))])


def act_divide(machine, frame, instruction):
    """Puts the quotient or the remainder of two numbers."""
    x, y = [number_of(word) for word in frame.stack[-2:]]
    if y == 0:
        return "zero"
    result = x // y if instruction[0] == "div" else x % y
    exchange(frame.stack, 2, [number_word(result)])
    return None


def act_flip(machine, frame, instruction):
    """Puts 1 for 0 and 0 for any other number."""
    exchange(frame.stack, 1, [number_word(same(number_of(frame.stack[-1]), 0))])


def act_drop(machine, frame, instruction):
    """Takes a value away."""
    exchange(frame.stack, 1, [])


def act_copy(machine, frame, instruction):
    """Puts the top value once more."""
    frame.stack.append(frame.stack[-1])


def act_swap(machine, frame, instruction):
    """Exchanges the top two values."""
    lower, upper = frame.stack[-2:]
    exchange(frame.stack, 2, [upper, lower])


def act_load(machine, frame, instruction):
    """Puts what a slot holds."""
    frame.stack.append(frame.slots[instruction[1]])


def act_store(machine, frame, instruction):
    """Moves the top value into a slot."""
    frame.slots[instruction[1]] = frame.stack.pop()


def act_fetch(machine, frame, instruction):
    """Puts what a static holds."""
    number = machine.program.static_number(instruction[1])
    frame.stack.append(machine.standing.statics[number])


def act_keep(machine, frame, instruction):
    """Moves the top value into a static."""
    number = machine.program.static_number(instruction[1])
    machine.standing.statics[number] = frame.stack.pop()


def act_jump(machine, frame, instruction):
    """Goes on at a place."""
    frame.place = instruction[1]


def act_when(machine, frame, instruction):
    """Goes on at a place if the number is not 0."""
    if number_of(frame.stack.pop()) != 0:
        frame.place = instruction[1]


def act_call(machine, frame, instruction):
    """Puts a frame of a function on top."""
    frames = machine.standing.frames
    if len(frames) >= MOST_FRAMES:
        return "deep"
    function = machine.program.function(instruction[1])
    count = len(function.params)
    arguments = frame.stack[len(frame.stack) - count:]
    exchange(frame.stack, count, [])
    frames.append(Frame(function, arguments))
    return None


def act_back(machine, frame, instruction):
    """Removes the top frame and hands its result to the frame below."""
    frames = machine.standing.frames
    frames.pop()
    if not frames:
        machine.outcome = "done"
    elif frame.function.result is not None:
        frames[-1].stack.append(frame.stack[-1])


def act_halt(machine, frame, instruction):
    """Ends the run where it is."""
    return "done"


def act_tell(machine, frame, instruction):
    """Tells a number."""
    machine.told = machine.told + (number_of(frame.stack.pop()),)


FRAME_ACTIONS = {
    "num": act_num,
    "add": act_combine,
    "sub": act_combine,
    "mul": act_combine,
    "div": act_divide,
    "mod": act_divide,
    "less": act_combine,
    "same": act_combine,
    "flip": act_flip,
    "drop": act_drop,
    "copy": act_copy,
    "swap": act_swap,
    "load": act_load,
    "store": act_store,
    "fetch": act_fetch,
    "keep": act_keep,
    "jump": act_jump,
    "when": act_when,
    "call": act_call,
    "back": act_back,
    "halt": act_halt,
    "tell": act_tell,
}
