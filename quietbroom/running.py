"""Runs a machine, and tells how much room the collector needs at some pace."""

from quietbroom.machine import Machine


def run(machine, schedule=(), *, fuel):
    """Advances the machine until it has an outcome or the fuel is used up; returns the outcome or "paused"."""
    for k in range(fuel):
        if machine.outcome is not None:
            break
        if isinstance(machine, Machine) and len(schedule) > 0:
            sweep(machine, schedule[k % len(schedule)])
        machine.advance()
    if machine.outcome is None:
        return "paused"
    return machine.outcome


def sweep(machine, entry):
    """Does what an entry of a schedule asks of the collector."""
    if entry % 2 == 1:
        machine.collect_young()
    for _ in range(entry // 2):
        machine.collect()


def room_for_pace(held, largest, pace):
    """The capacity at which a machine of this pace, from 3 on, is never forced to collect."""
    needed = 8 + 4 * held + 2 * pace * largest
    gain = 2 * pace - 5
    # Rounded up.
    return held + 2 * ((needed + gain - 1) // gain)
