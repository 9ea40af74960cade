"""Executes the instructions of a machine, whatever memory it has."""

from quietbroom.frame_actions import FRAME_ACTIONS
from quietbroom.object_actions import OBJECT_ACTIONS


def step(machine):
    """Executes the next instruction; tells whether it was executed to its end."""
    if machine.outcome is not None:
        return False
    frame = machine.standing.frames[-1]
    instruction = frame.function.body[frame.place]
    if instruction[0] in FRAME_ACTIONS:
        action = FRAME_ACTIONS[instruction[0]]
    else:
        action = OBJECT_ACTIONS[instruction[0]]
    frame.place += 1
    outcome = action(machine, frame, instruction)
    if outcome is not None:
        frame.place -= 1
        machine.outcome = outcome
        return False
    machine.steps += 1
    return True
