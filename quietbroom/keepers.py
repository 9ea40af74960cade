"""Which objects are held only by way of others."""

from quietbroom.disjoint import two_chains
from quietbroom.graphs import all_words, met_order, words_of
from quietbroom.ways import referrers, refuse_missing
from quietbroom.words import address_of, is_reference, reference_word

# What holds the objects to which the root rows refer; it is no object.
ROOT = -1


def keepers(picture):
    """For each object the number of its keeper, or None."""
    return tuple([None if keeper == ROOT else keeper for keeper in nearest_keepers(holders(picture))])


def nearest_keepers(holding):
    """For each object its keeper or ROOT, by the numbers of those that refer to each."""
    found = [None] * len(holding)
    changed = True
    while changed:
        changed = False
        for number, those in enumerate(holding):
            keeper = joint_keeper(found, those)
            if keeper != found[number]:
                found[number] = keeper
                changed = True
    return found


def joint_keeper(found, those):
    """The nearest one by way of which all those are held, themselves among them, as far as is found yet."""
    joint = None
    for holder in those:
        if holder == ROOT:
            return ROOT
        if found[holder] is not None:
            joint = holder if joint is None else common(found, joint, holder)
    return joint


def common(found, one, two):
    """The nearest one by way of which both are held; a keeper has a lesser number than what it keeps."""
    while one != two:
        if one > two:
            one = found[one]
        else:
            two = found[two]
    return one


def holders(picture):
    """For each object the numbers of those that refer to it, ROOT for a root row."""
    holding = [[] for _ in picture.objects]
    for row in picture.rows():
        note_holder(holding, ROOT, row)
    for number, (_, payload) in enumerate(picture.objects):
        note_holder(holding, number, payload)
    return holding


def note_holder(holding, holder, words):
    """Takes note of the one that has these words."""
    for number in numbers_in(words):
        holding[number].append(holder)


def numbers_in(words):
    """The numbers of the objects to which the words refer."""
    return [address_of(word) - 1 for word in words if is_reference(word)]


def two_ways(picture, number):
    """Two ways that show that nothing nearer than its keeper keeps the object; raises NoObject."""
    refuse_missing(picture, number)
    keeper = nearest_keepers(holders(picture))[number]

    def targets_of(holder):
        if holder == ROOT:
            return numbers_in([word for row in picture.rows() for word in row])
        return numbers_in(picture.objects[holder][1])

    chains = two_chains(targets_of, keeper, number)
    if keeper == ROOT:
        return tuple([root_way(picture, chain) for chain in chains])
    return tuple([places_along(picture, [keeper] + chain) for chain in chains])


def root_way(picture, chain):
    """A way that goes to these objects."""
    _, row, position = referrers(picture, chain[0])[0]
    return row, position, places_along(picture, chain)


def places_along(picture, chain):
    """The payload places that lead from each of these objects to the next one."""
    return tuple([
        picture.objects[one][1].index(reference_word(two + 1)) for one, two in zip(chain, chain[1:])
    ])


def kept_words(picture, number):
    """The sum of the sizes of an object and of all that it keeps; raises NoObject."""
    refuse_missing(picture, number)

    def payload_of(other):
        return () if other == number else picture.objects[other][1]

    met = met_order(picture.rows(), payload_of)
    return all_words(picture.objects) - words_of([other for other in met if other != number], picture.objects)
