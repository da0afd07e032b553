"""The parameter sets, seeds and byte lists that the tests from the cipher on share."""

import functools
import random

from noisebound.parameters import set_of
from tests.oracle import Oracle

# The set of the document's examples; it always brings the message back, and 2^u_width is above q.
SMALL = (8, 97, 33, 1, 1, 1, 7, 4)
# Sets whose noise bound is at most the room.
ALWAYS = (
    SMALL, (8, 73, 10, 1, 1, 1, 7, 7), (8, 281, 60, 2, 1, 3, 10, 6), (8, 2713, 60, 4, 3, 3, 11, 10),
    (16, 593, 82, 3, 1, 2, 11, 10), (16, 1553, 99, 4, 1, 2, 8, 10),
)
# Sets whose noise bound is above the room, some of them far: letters are mostly read wrong there.
NOISY = (
    (8, 17, 2, 1, 1, 1, 1, 1), (8, 17, 15, 4, 3, 3, 11, 11), (8, 17, 9, 2, 3, 1, 4, 5), (8, 41, 3, 3, 1, 3, 6, 5),
    (16, 17, 3, 2, 2, 2, 5, 4), (16, 97, 8, 4, 2, 3, 3, 5), (16, 4049, 276, 2, 3, 3, 11, 11), (8, 89, 12, 1, 2, 3, 2, 11),
)
# Both 2^u_width and 2^v_width are above q.
EXACT = (
    (8, 73, 10, 1, 1, 1, 7, 7), (8, 17, 15, 4, 3, 3, 11, 11), (8, 17, 2, 1, 3, 2, 5, 5), (16, 593, 82, 3, 1, 2, 11, 10),
    (16, 17, 14, 2, 2, 3, 6, 8), (8, 1033, 231, 4, 3, 3, 11, 11),
)
SMALL_SETS = ALWAYS + NOISY
MIDDLE = ((32, 97, 19, 2, 1, 1, 7, 7), (64, 193, 11, 1, 3, 1, 11, 1), (128, 257, 9, 1, 1, 2, 4, 11))
PUBLISHED = ((256, 3329, 17, 2, 3, 2, 10, 4), (256, 3329, 17, 3, 2, 2, 10, 4), (256, 3329, 17, 4, 2, 2, 11, 5))


@functools.lru_cache(maxsize=None)
def pair_of(numbers):
    """The set and the oracle of eight numbers."""
    return (set_of(numbers), Oracle(numbers))


def some_bytes(seed, count):
    """A byte list without a pattern; equal calls give equal lists."""
    chance = random.Random(f"bytes {seed} {count}")
    return [chance.randrange(256) for _ in range(count)]


def seed_of(number):
    """A seed; the first ones stand at the ends of what is allowed."""
    if number < 2:
        return [255 * number] * 32
    return some_bytes(number, 32)


def message_of(number, count):
    """A message; the first ones stand at the ends of what is allowed."""
    if number < 2:
        return [255 * number] * count
    return some_bytes(("message", number), count)
