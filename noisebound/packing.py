"""Packing: integers of a few bits each as bytes, and back."""

from noisebound.checks import check_between, check_integers, check_items, check_number, check_vector, check_whole_groups
from noisebound.octets import check_bytes, little_bytes, little_integer

GREATEST_WIDTH = 12


def pack(width, numbers):
    """Write integers of width bits each, the lowest bits first."""
    check_between("width", width, 1, GREATEST_WIDTH)
    check_whole_groups(numbers, 8)
    check_items(numbers, 0, (1 << width) - 1)
    data = []
    # Eight numbers of width bits fill exactly width bytes.
    for start in range(0, len(numbers), 8):
        group = [number << (width * place) for place, number in enumerate(numbers[start:start + 8])]
        data.extend(little_bytes(width, sum(group)))
    return data


def unpack(width, data):
    """Read the integers of width bits each that bytes hold."""
    check_between("width", width, 1, GREATEST_WIDTH)
    check_whole_groups(data, width)
    check_bytes(data)
    numbers = []
    for start in range(0, len(data), width):
        group = little_integer(data[start:start + width])
        numbers.extend([(group >> (width * place)) & ((1 << width) - 1) for place in range(8)])
    return numbers


def first_not_below(numbers, limit):
    """Return the index of the first integer that is not below the limit, or None."""
    check_integers(numbers)
    check_number("limit", limit)
    for index, number in enumerate(numbers):
        if number >= limit:
            return index
    return None


def pack_vector(ring, vector):
    """Write the items of all members in twelve bits each."""
    check_vector("vector", ring, vector)
    return pack(GREATEST_WIDTH, [item for poly in vector for item in poly])


def unpack_vector(ring, count, data):
    """Read so many polynomials, each number modulo q."""
    check_between("count", count, 1, 4)
    check_bytes(data, length=3 * ring.n * count // 2)
    items = [number % ring.q for number in unpack(GREATEST_WIDTH, data)]
    return [items[start:start + ring.n] for start in range(0, len(items), ring.n)]
