"""The argument checks that all modules share."""

from noisebound.errors import BadItem, BadLength, OutOfRange


def is_number(value):
    """Tell if value is an integer; True and False are none."""
    return isinstance(value, int) and not isinstance(value, bool)


def is_between(value, low, high):
    """Tell if value is an integer from low to high."""
    return is_number(value) and low <= value <= high


def check_number(name, value):
    """Refuse everything but an integer of any sign."""
    if not is_number(value):
        raise OutOfRange(name)


def check_between(name, value, low, high):
    """Refuse everything but an integer from low to high."""
    if not is_between(value, low, high):
        raise OutOfRange(name)


def check_choice(name, value, choices):
    """Refuse everything but one of these integers."""
    # 8.0 and True are equal to integers, so the kind is looked at first.
    if not is_number(value) or value not in choices:
        raise OutOfRange(name)


def check_length(items, expected):
    """Refuse another number of items than expected."""
    if len(items) != expected:
        raise BadLength(expected, len(items))


def check_whole_groups(items, size):
    """Refuse a number of items that is not a multiple of size."""
    found = len(items)
    groups = (found + size - 1) // size
    if groups * size != found:
        raise BadLength(groups * size, found)


def check_items(items, low, high):
    """Refuse the first item that is not an integer from low to high."""
    for index, item in enumerate(items):
        if not is_between(item, low, high):
            raise BadItem(index)


def check_integers(items):
    """Refuse the first item that is not an integer."""
    for index, item in enumerate(items):
        if not is_number(item):
            raise BadItem(index)


def check_row(items, count, low, high):
    """Refuse what is not exactly count integers from low to high."""
    check_length(items, count)
    check_items(items, low, high)


def check_polynomial(ring, poly):
    """Refuse what is not a polynomial of the ring; a spectrum has the same shape."""
    check_row(poly, ring.n, 0, ring.q - 1)


def check_vector(name, ring, vector):
    """Refuse what is not 1 to 4 polynomials of the ring."""
    check_between(name, len(vector), 1, 4)
    for poly in vector:
        check_polynomial(ring, poly)


def check_centred_vector(rows, count, length, bound):
    """Refuse what is not exactly count rows of so many integers from -bound to bound."""
    check_length(rows, count)
    for row in rows:
        check_row(row, length, -bound, bound)


def is_same(one, other):
    """Tell if two plain values are equal, with the same kinds all through: True is not 1."""
    if isinstance(one, (list, tuple)):
        return is_same_row(one, other)
    return is_number(one) == is_number(other) and one == other


def is_same_row(row, other):
    """Tell if a list or tuple equals another value, with the same kinds all through."""
    if isinstance(row, list):
        if not isinstance(other, list):
            return False
    elif not isinstance(other, tuple):
        return False
    return len(row) == len(other) and all([is_same(one, two) for one, two in zip(row, other)])


def first_unlike(items, others):
    """Return the least index at which only one list has an item or the items are not the same, or None."""
    shared = min(len(items), len(others))
    for index in range(shared):
        if not is_same(items[index], others[index]):
            return index
    if len(items) != len(others):
        return shared
    return None
