"""What each operation takes from the stack and puts on it."""

# The words of this table stand for kinds and are no kinds themselves: a shape
# may be called "any", too. "any" among what is put is a value carried along.
EFFECTS = {
    "num": ((), ("num",)),
    "add": (("num", "num"), ("num",)),
    "sub": (("num", "num"), ("num",)),
    "mul": (("num", "num"), ("num",)),
    "div": (("num", "num"), ("num",)),
    "mod": (("num", "num"), ("num",)),
    "less": (("num", "num"), ("num",)),
    "same": (("num", "num"), ("num",)),
    "flip": (("num",), ("num",)),
    "drop": (("any",), ()),
    "copy": (("any",), ("any", "any")),
    "swap": (("any", "any"), ("any", "any")),
    "load": ((), ("any",)),
    "store": (("any",), ()),
    "fetch": ((), ("static",)),
    "keep": (("static",), ()),
    "jump": ((), ()),
    "when": (("num",), ()),
    "call": (("params",), ("called",)),
    "back": (("result",), ()),
    "halt": ((), ()),
    "tell": (("num",), ()),
    "nil": ((), ("shape",)),
    "empty": (("shape",), ("num",)),
    "twin": (("shape", "shape"), ("num",)),
    "make": ((), ("shape",)),
    "get": (("shape",), ("field",)),
    "put": (("shape", "field"), ()),
    "array": (("num",), ("shape",)),
    "at": (("shape", "num"), ("item",)),
    "set": (("shape", "num", "item"), ()),
    "length": (("shape",), ("num",)),
    "weaken": (("target",), ("shape",)),
    "peek": (("shape",), ("target",)),
    "pair": (("key", "value"), ("shape",)),
    "key": (("shape",), ("key",)),
    "value": (("shape",), ("value",)),
    "watch": (("shape",), ()),
    "parted": ((), ("shape",)),
    "settle": ((), ()),
}


def taken_kinds(program, function, instruction):
    """The kinds of the values that an instruction takes, the top one last; None is any kind."""
    return meant_kinds(program, function, instruction, EFFECTS[instruction[0]][0])


def put_kinds(program, function, instruction):
    """The kinds of the values that an instruction puts; None is a value that it carries along."""
    return meant_kinds(program, function, instruction, EFFECTS[instruction[0]][1])


def meant_kinds(program, function, instruction, words):
    """The kinds that words of the table stand for in this instruction."""
    kinds = []
    for word in words:
        if word == "num":
            kinds.append("num")
        elif word == "any":
            kinds.append(None)
        elif word == "result":
            kinds.extend(result_kinds(function))
        else:
            kinds.extend(operand_kinds(program, instruction, word))
    return tuple(kinds)


def operand_kinds(program, instruction, word):
    """The kinds that a word of the table stands for, by what the operands of the instruction name."""
    name = instruction[1]
    if word == "shape":
        return (name,)
    if word == "static":
        return (program.statics[program.static_number(name)][1],)
    if word == "params":
        return program.function(name).params
    if word == "called":
        return result_kinds(program.function(name))
    # What is left is a field: one that the instruction names, or one that the form of the shape has.
    field = instruction[2] if word == "field" else word
    kinds = dict(program.shape(name).fields)
    return (kinds[field],)


def result_kinds(function):
    """The kind of what a function gives back; none if it has no result."""
    if function.result is None:
        return ()
    return (function.result,)
