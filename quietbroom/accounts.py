"""What the objects of a picture take, and what a settling would make of it."""

from quietbroom.graphs import all_words, program_settling, strong_table
from quietbroom.pictures import picture_of


def account(program, picture):
    """For each shape (name, number of its objects, sum of their sizes)."""
    return tuple([shape_account(shape.name, picture) for shape in program.shapes])


def shape_account(wanted, picture):
    """(name, number of its objects, sum of their sizes) for the shape with this name."""
    objects = [(name, payload) for name, payload in picture.objects if name == wanted]
    return wanted, len(objects), all_words(objects)


def loose(program, picture):
    """The numbers of the objects that are not held strongly."""
    strong = strong_table(program, (*settling_rows(picture), picture.parted), picture.objects)
    return tuple([number for number in range(len(picture.objects)) if number not in strong])


def settled_picture(program, picture):
    """The picture behind a settling."""
    watched, parted, objects = program_settling(
        program, settling_rows(picture), picture.watched, picture.parted, picture.objects
    )
    return picture_of(picture.statics, picture.frames, watched, parted, objects)


def settling_rows(picture):
    """The root rows but for the watched and the parted list."""
    return picture.rows()[:-2]
