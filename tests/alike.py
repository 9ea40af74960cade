"""Runs a program on both machines side by side and compares all that can be asked of them."""

import random

from quietbroom.machine import Machine
from quietbroom.plain import PlainMachine
from tests.rules import check_memory, resolved

DEEDS = ("collect",) * 6 + ("collect_young", "finish", "collect_all")


class Both:
    """A run on the real machine, beside one on the plain machine whose limit is the capacity."""

    def __init__(self, program, arguments=(), *, capacity, nursery=0, pace=0):
        self.plain = PlainMachine(program, arguments, limit=capacity)
        self.real = Machine(program, arguments, capacity=capacity, nursery=nursery, pace=pace)
        self.compare()

    def known(self):
        """For each held object its birth number and the resolved address of its block."""
        births, addresses = self.plain.birth_numbers(), self.real.addresses()
        assert len(births) == len(addresses) == len(set(addresses)), "another number of held objects"
        return dict(zip(births, addresses))

    def compare(self):
        """Raises an error if the machines differ or a rule about the memory does not hold."""
        plain, real = self.plain, self.real
        for name in ("told", "outcome", "steps", "settlings"):
            assert getattr(plain, name) == getattr(real, name), name
        picture = plain.picture()
        assert picture == real.picture(), "picture"
        assert plain.held_words() == real.held_words(), "held_words"
        assert real.waste() == real.heap.used() - plain.held_words() >= 0, "waste"
        rows = real.root_rows()
        check_memory(real.heap, rows)
        numbers = {address: number for number, address in enumerate(real.addresses())}
        shown = tuple(tuple(2 * numbers[resolved(real.heap, word // 2)] + 2 if word % 2 == 0 and word else word
                            for word in row) for row in rows)
        assert shown == picture.rows(), "root rows"

    def advance(self):
        """One instruction on both."""
        before = self.known()
        result = self.plain.advance()
        assert self.real.advance() is result, "advance"
        self.compare()
        # Births are counted on; those that were there before are still the same objects.
        assert all(birth in before or birth >= len(before) for birth in self.known())
        return result

    def deed(self, name):
        """One call of point 67; what it returned."""
        before, heap = self.known(), self.real.heap
        told = getattr(self.real, name)()
        after = self.known()
        assert list(after) == list(before), "birth numbers"
        for birth, address in before.items():
            old, now = address > heap.nursery, after[birth]
            if told == "move":
                assert now in (address, resolved(heap, address)), "moved to another block"
            elif old and name in ("collect", "collect_young"):
                assert now == address, "moved in another step"
        self.compare()
        return told

    def some_deeds(self, rng, most):
        """Some calls of point 67."""
        return [self.deed(rng.choice(DEEDS)) for _ in range(rng.randrange(most + 1))]

    def run(self, seed=None, fuel=2000, most=2):
        """Runs both to the end, with calls between the instructions if there is a seed; the outcome."""
        rng = random.Random(seed)
        for _ in range(fuel):
            if seed is not None:
                self.some_deeds(rng, most)
            if not self.advance():
                break
        if seed is not None:
            self.some_deeds(rng, 20)
        return self.real.outcome
