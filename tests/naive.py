"""A machine of another make: numbers are integers, references are Python objects, nil is None."""

LOW, SPAN = -2147483648, 4294967296


class Thing:
    """An object of the naive machine."""

    def __init__(self, shape, payload, birth):
        self.shape = shape
        self.payload = payload
        self.birth = birth


class Call:
    """A frame of the naive machine."""

    def __init__(self, function, arguments):
        self.function = function
        self.place = 0
        self.slots = arguments + [None] * (function.slots - len(arguments))
        self.stack = []


class NaiveMachine:
    """Runs a program as points 28 to 38 say."""

    def __init__(self, program, arguments=(), limit=None):
        self.program = program
        self.limit = limit
        self.statics = [0 if kind == "num" else None for _, kind in program.statics]
        self.frames = [Call(program.functions[0], list(arguments))]
        self.watched, self.parted, self.things, self.told = [], [], [], []
        self.outcome, self.steps, self.settlings = None, 0, 0

    def strong_roots(self):
        rows = [self.statics]
        for frame in self.frames:
            rows += [frame.slots, frame.stack]
        return rows

    def roots(self):
        return self.strong_roots() + [self.watched, self.parted]

    def held(self):
        """The held things in the order in which they are met."""
        order = []
        queue = [value for row in self.roots() for value in row]
        seen = set()
        for value in queue:
            if isinstance(value, Thing) and value not in seen:
                seen.add(value)
                order.append(value)
                queue.extend(value.payload)
        return order

    def held_words(self):
        return sum(len(thing.payload) + 2 for thing in self.held())

    def strong(self):
        found = {value for row in self.strong_roots() + [self.parted] for value in row if isinstance(value, Thing)}
        while True:
            more = set(found)
            for thing in found:
                if thing.shape.form in ("record", "array"):
                    more.update(value for value in thing.payload if isinstance(value, Thing))
                if thing.shape.form == "pair" and thing.payload[0] in found and isinstance(thing.payload[1], Thing):
                    more.add(thing.payload[1])
            if more == found:
                return found
            found = more

    def settle(self):
        strong = self.strong()
        for thing in self.things:
            if thing.shape.form in ("weak", "pair") and thing.payload[0] not in strong:
                thing.payload[0] = None
                if thing.shape.form == "pair":
                    thing.payload[1] = 0 if thing.shape.fields[1][1] == "num" else None
        self.parted += [thing for thing in self.watched if thing not in strong]
        self.watched = [thing for thing in self.watched if thing in strong]
        self.settlings += 1

    def new(self, shape, payload):
        """A new thing, or None if there is no room."""
        size = len(payload) + 2
        if self.limit is not None and self.held_words() + size > self.limit:
            self.settle()
            if self.held_words() + size > self.limit:
                return None
        self.things.append(Thing(shape, payload, len(self.things)))
        return self.things[-1]

    def advance(self):
        if self.outcome is not None:
            return False
        frame = self.frames[-1]
        word, *operands = frame.function.body[frame.place]
        trap = self.execute(frame, word, operands)
        if trap is not None:
            self.outcome = trap
            return False
        self.steps += 1
        return True

    def execute(self, frame, word, operands):
        """Executes an instruction; the name of a trap if it is not executed to its end."""
        stack = frame.stack
        if word == "halt":
            return "done"
        if word in ("jump", "when"):
            frame.place = operands[0] if word == "jump" or stack.pop() != 0 else frame.place + 1
            return None
        if word == "call":
            if len(self.frames) == 40:
                return "deep"
            function = self.program.function(operands[0])
            frame.place += 1
            cut = len(stack) - len(function.params)
            self.frames.append(Call(function, stack[cut:]))
            del stack[cut:]
            return None
        if word == "back":
            self.frames.pop()
            if not self.frames:
                self.outcome = "done"
            elif frame.function.result is not None:
                self.frames[-1].stack.append(stack[-1])
            return None
        told = self.compute(frame, word, operands)
        if isinstance(told, str):
            return told
        taken, put = told
        del stack[len(stack) - taken:]
        stack += put
        frame.place += 1
        return None

    def compute(self, frame, word, operands):
        """How many values are taken and which ones are put, or the name of a trap."""
        stack = frame.stack
        top = stack[-1] if stack else None
        below = stack[-2] if len(stack) > 1 else None
        if word == "num":
            return 0, [operands[0]]
        if word in ("add", "sub", "mul", "div", "mod"):
            if word in ("div", "mod") and top == 0:
                return "zero"
            result = {"add": lambda: below + top, "sub": lambda: below - top, "mul": lambda: below * top,
                      "div": lambda: below // top, "mod": lambda: below % top}[word]()
            return 2, [(result - LOW) % SPAN + LOW]
        if word in ("less", "same"):
            return 2, [int(below < top) if word == "less" else int(below == top)]
        if word == "flip":
            return 1, [int(top == 0)]
        if word in ("drop", "tell", "store", "keep", "watch"):
            if word == "watch" and top is None:
                return "nil"
            self.put_away(frame, word, operands, top)
            return 1, []
        if word in ("copy", "swap"):
            return (1, [top, top]) if word == "copy" else (2, [top, below])
        if word in ("load", "fetch"):
            return 0, [frame.slots[operands[0]] if word == "load"
                       else self.statics[[name for name, _ in self.program.statics].index(operands[0])]]
        if word == "settle":
            self.settle()
            return 0, []
        return self.compute_object(stack, word, self.program.shape(operands[0]), operands[1:])

    def put_away(self, frame, word, operands, value):
        if word == "tell":
            self.told.append(value)
        elif word == "store":
            frame.slots[operands[0]] = value
        elif word == "keep":
            self.statics[[name for name, _ in self.program.statics].index(operands[0])] = value
        elif word == "watch":
            self.watched.append(value)

    def compute_object(self, stack, word, shape, field):
        top = stack[-1] if stack else None
        if word == "nil":
            return 0, [None]
        if word == "empty":
            return 1, [int(top is None)]
        if word == "twin":
            return 2, [int(stack[-2] is top)]
        if word == "parted":
            for thing in self.parted:
                if thing.shape.name == shape.name:
                    del self.parted[self.parted.index(thing)]
                    return 0, [thing]
            return 0, [None]
        if word == "make":
            thing = self.new(shape, [0 if kind == "num" else None for _, kind in shape.fields])
            return "full" if thing is None else (0, [thing])
        if word == "array":
            if not 0 <= top <= 1000:
                return "index"
            thing = self.new(shape, [0 if shape.fields[0][1] == "num" else None] * top)
            return "full" if thing is None else (1, [thing])
        if word in ("weaken", "pair"):
            count = len(shape.fields)
            if stack[-count] is None:
                return "nil"
            thing = self.new(shape, [None] * count)
            if thing is None:
                return "full"
            thing.payload[:] = stack[-count:]
            return count, [thing]
        return self.compute_payload(stack, word, shape, field)

    def compute_payload(self, stack, word, shape, field):
        count = {"put": 2, "at": 2, "set": 3}.get(word, 1)
        thing = stack[-count]
        if thing is None:
            return "nil"
        if word == "length":
            return 1, [len(thing.payload)]
        if word in ("at", "set"):
            place = stack[1 - count]
            if not 0 <= place < len(thing.payload):
                return "index"
        else:
            name = field[0] if field else {"peek": "target"}.get(word, word)
            place = [own for own, _ in shape.fields].index(name)
        if word in ("put", "set"):
            thing.payload[place] = stack[-1]
            return count, []
        return count, [thing.payload[place]]

    def picture_parts(self):
        """The five parts of the picture."""
        order = self.held()
        numbers = {thing: number for number, thing in enumerate(order)}

        def words(values):
            return tuple(0 if value is None else 2 * numbers[value] + 2 if isinstance(value, Thing) else 2 * value + 1
                         for value in values)

        frames = tuple((frame.function.name, frame.place, words(frame.slots), words(frame.stack)) for frame in self.frames)
        objects = tuple((thing.shape.name, words(thing.payload)) for thing in order)
        return words(self.statics), frames, words(self.watched), words(self.parted), objects
