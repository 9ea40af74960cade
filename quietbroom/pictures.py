"""Pictures: a standing of a machine without birth numbers and addresses."""

from quietbroom.graphs import held_order
from quietbroom.sequences import frozen
from quietbroom.words import address_of, is_reference, reference_word


class Picture:
    """The statics, the frames from the bottom one, the two lists and the held objects of a machine."""

    def __init__(self, statics, frames, watched, parted, objects):
        self.statics = frozen(statics)
        self.frames = frozen(frames)
        self.watched = frozen(watched)
        self.parted = frozen(parted)
        self.objects = frozen(objects)

    def __eq__(self, other):
        return isinstance(other, Picture) and picture_parts(self) == picture_parts(other)

    def rows(self):
        """The root rows."""
        return root_rows(self.statics, self.frames, self.watched, self.parted)


def picture_parts(picture):
    """The five parts of a picture."""
    return picture.statics, picture.frames, picture.watched, picture.parted, picture.objects


def root_rows(statics, frames, watched, parted):
    """The root rows of a standing, whose frames are as in a picture."""
    rows = [statics]
    for _, _, slots, stack in frames:
        rows.extend([slots, stack])
    rows.extend([watched, parted])
    return tuple(rows)


def picture_of(statics, frames, watched, parted, objects):
    """The picture of a standing in which objects have any numbers."""
    order = held_order(root_rows(statics, frames, watched, parted), objects)
    numbers = {old: new for new, old in enumerate(order)}
    shown_frames = [
        (name, place, shown(slots, numbers), shown(stack, numbers)) for name, place, slots, stack in frames
    ]
    shown_objects = [(objects[old][0], shown(objects[old][1], numbers)) for old in order]
    return Picture(
        shown(statics, numbers), shown_frames, shown(watched, numbers), shown(parted, numbers), shown_objects
    )


def shown(words, numbers):
    """The words with the references numbered anew."""
    return [shown_word(word, numbers) for word in words]


def shown_word(word, numbers):
    """A word with the object to which it refers numbered anew."""
    if is_reference(word):
        return reference_word(numbers[address_of(word) - 1] + 1)
    return word
