"""Byte lists, their bits, and the integers that they stand for."""

from noisebound.checks import check_between, check_items, check_length, check_whole_groups
from noisebound.errors import BadLength

LONGEST = 20000


def check_bytes(data, *, length=None):
    """Refuse what is not a byte list, or not one of this length."""
    if length is not None:
        check_between("length", length, 0, LONGEST)
        check_length(data, length)
    check_items(data, 0, 255)


def concatenate(*pieces):
    """Join byte lists."""
    for piece in pieces:
        check_bytes(piece)
    return [byte for piece in pieces for byte in piece]


def split_at(data, *, sizes):
    """Cut a byte list into byte lists of these sizes."""
    check_bytes(data)
    for size in sizes:
        check_between("sizes", size, 0, LONGEST)
    if sum(sizes) != len(data):
        raise BadLength(sum(sizes), len(data))
    parts = []
    start = 0
    for size in sizes:
        parts.append(data[start:start + size])
        start = start + size
    return parts


def xor_bytes(first, second):
    """Combine two byte lists of one length by the exclusive or."""
    check_bytes(first)
    check_bytes(second)
    check_length(second, len(first))
    return [one ^ other for one, other in zip(first, second)]


def differing_places(first, second):
    """List the places at which only one list has an item or the items are unequal."""
    check_bytes(first)
    check_bytes(second)
    shared = min(len(first), len(second))
    unequal = [place for place in range(shared) if first[place] != second[place]]
    return unequal + list(range(shared, max(len(first), len(second))))


def change_byte(data, index, value):
    """Copy a byte list with another byte at one index."""
    check_bytes(data)
    check_between("index", index, 0, len(data) - 1)
    check_between("value", value, 0, 255)
    changed = list(data)
    changed[index] = value
    return changed


def little_bytes(count, value):
    """Write an integer in so many bytes, lowest first."""
    check_between("count", count, 0, 200)
    check_between("value", value, 0, (1 << (8 * count)) - 1)
    return [(value >> (8 * place)) & 255 for place in range(count)]


def little_integer(data):
    """Read an integer from bytes, lowest first."""
    check_bytes(data)
    return sum([byte << (8 * place) for place, byte in enumerate(data)])


def bits_of(data):
    """List the bits of all bytes, from the lowest to the highest of each."""
    check_bytes(data)
    return [(byte >> place) & 1 for byte in data for place in range(8)]


def bytes_of(bits):
    """Make the byte list that has these bits."""
    check_whole_groups(bits, 8)
    check_items(bits, 0, 1)
    return [
        sum([bits[start + place] << place for place in range(8)])
        for start in range(0, len(bits), 8)
    ]
