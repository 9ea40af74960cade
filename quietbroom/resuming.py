"""Machines whose run goes on from a picture."""

from quietbroom.checker import check
from quietbroom.errors import BadPicture, NoRoom
from quietbroom.fitting import picture_fault
from quietbroom.graphs import all_words
from quietbroom.headers import WHITE
from quietbroom.heaps import claim_old
from quietbroom.machine import Machine
from quietbroom.pictures import shown
from quietbroom.placing import write_block
from quietbroom.plain import PlainMachine
from quietbroom.shapes import size_of
from quietbroom.standings import resumed_standing


def resume(program, picture, *, capacity, nursery=0, pace=0):
    """The real machine that has this picture; raises Refused, BadPicture or NoRoom."""
    refuse_picture(program, picture, capacity)
    machine = Machine(program, entry_zeros(program), capacity=capacity, nursery=nursery, pace=pace)
    addresses = []
    for _, payload in picture.objects:
        addresses.append(claim_old(machine.heap, size_of(len(payload))))
    # An object numbered with its address less 1 is referred to by that address.
    numbers = {number: address - 1 for number, address in enumerate(addresses)}
    for (name, payload), address in zip(picture.objects, addresses):
        write_block(machine.heap, address, program.shape_number(name), WHITE, shown(payload, numbers))
    take_up(machine, program, picture, numbers)
    return machine


def resume_plain(program, picture, *, limit=None):
    """The plain machine that has this picture; raises Refused, BadPicture or NoRoom."""
    refuse_picture(program, picture, limit)
    machine = PlainMachine(program, entry_zeros(program), limit=limit)
    machine.objects = [(name, list(payload)) for name, payload in picture.objects]
    machine.births = len(picture.objects)
    take_up(machine, program, picture, {number: number for number in range(machine.births)})
    return machine


def refuse_picture(program, picture, room):
    """Raises an error if the program or the picture is wrong or the objects need more than this room."""
    check(program)
    fault = picture_fault(program, picture)
    if fault is not None:
        part, number, why = fault
        raise BadPicture(part, number, why)
    words = all_words(picture.objects)
    if room is not None and words > room:
        raise NoRoom(words)


def entry_zeros(program):
    """Arguments that any entry takes."""
    return [0] * len(program.functions[0].params)


def take_up(machine, program, picture, numbers):
    """Lets a machine go on where the picture stands, with other numbers for its objects."""
    machine.standing = resumed_standing(program, picture, numbers)
    if not picture.frames:
        machine.outcome = "done"
