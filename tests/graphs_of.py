"""Small random pictures whose objects are numbered in the order of held_order, and their ways worked out naively."""

import random

from quietbroom.pictures import Picture, picture_of


def random_picture(seed, most=9):
    """A picture of objects that refer to one another at random, the same for the same seed."""
    rng = random.Random(seed)
    count = rng.randrange(1, most + 1)
    edges = rng.choice((0.5, 1, 1.5, 2.5))
    nils = rng.random() * 0.6

    def word():
        if rng.random() < nils:
            return rng.choice((0, 1, -5))
        return 2 * rng.randrange(count) + 2

    objects = [("node", [word() for _ in range(int(rng.random() * 2 * edges + 0.5))]) for _ in range(count)]
    rows = [[rng.choice((0, 7, 2 * rng.randrange(count) + 2)) for _ in range(rng.randrange(3))] for _ in range(5)]
    return picture_of(rows[0], [("main", 0, rows[1], rows[2])], [word for word in rows[3] if word % 2 == 0 and word],
                      [word for word in rows[4] if word % 2 == 0 and word], objects)


def chain(length, back=False):
    """A picture of objects that each refer to the next one, and perhaps to the one before."""
    objects = []
    for number in range(length):
        following = 2 * number + 4 if number + 1 < length else 0
        objects.append(("node", [following, 2 * number if back else 0]))
    return Picture([2], [], [], [], objects)


def targets(words):
    """The numbers of the objects to which words refer."""
    return [word // 2 - 1 for word in words if word % 2 == 0 and word]


def reached(picture, without=None):
    """The numbers of the objects to which a way leads that does not go to this one."""
    queue = [number for row in picture.rows() for number in targets(row) if number != without]
    seen = set(queue)
    while queue:
        for number in targets(picture.objects[queue.pop()][1]):
            if number not in seen and number != without:
                seen.add(number)
                queue.append(number)
    return seen


def kept_by(picture, number):
    """The objects that are on no way once this one is taken away, but for this one."""
    return set(range(len(picture.objects))) - reached(picture, number) - {number}


def expected_keepers(picture):
    """The keepers by the words of the point."""
    count = len(picture.objects)
    kept = [kept_by(picture, number) for number in range(count)]
    keeping = [{other for other in range(count) if number in kept[other]} for number in range(count)]
    found = []
    for those in keeping:
        nearest = [other for other in those if those - {other} <= keeping[other]]
        assert len(nearest) == (1 if those else 0)
        found.append(nearest[0] if nearest else None)
    return tuple(found)


def all_ways(picture, most):
    """All ways of at most so many steps, those of fewer steps first, else in the order of tuples."""
    level = [(row, position, ()) for row, words in enumerate(picture.rows())
             for position, word in enumerate(words) if word % 2 == 0 and word]
    ends = {way: picture.rows()[way[0]][way[1]] // 2 - 1 for way in level}
    found = []
    for _ in range(most + 1):
        found += [(way, ends[way]) for way in level]
        following = []
        for way in level:
            for place, word in enumerate(picture.objects[ends[way]][1]):
                if word % 2 == 0 and word:
                    longer = (way[0], way[1], way[2] + (place,))
                    ends[longer] = word // 2 - 1
                    following.append(longer)
        level = sorted(following)
    return found
