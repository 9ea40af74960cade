"""Integers as octets, seven bits in each, the lowest first."""

from quietbroom.errors import BadCode

GROUP = 128
MOST_OCTETS = 5


def encode_number(n):
    """The octets of an integer, as few as possible."""
    octets = []
    while n >= GROUP:
        octets.append(GROUP + n % GROUP)
        n = n // GROUP
    octets.append(n)
    return tuple(octets)


def decode_number(octets, at):
    """The integer that begins at this index, and the index behind it; raises BadCode."""
    last = at
    while last < len(octets) and octets[last] >= GROUP:
        last += 1
    if last >= len(octets):
        raise BadCode(len(octets))
    if last - at >= MOST_OCTETS or (last > at and octets[last] == 0):
        raise BadCode(at)
    n = 0
    for octet in reversed(octets[at:last + 1]):
        n = n * GROUP + octet % GROUP
    return n, last + 1
