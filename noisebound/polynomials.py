"""Polynomials of a ring: lists of n residues modulo q, in which X^n is -1."""

from noisebound.checks import check_between, check_integers, check_length, check_number, check_polynomial
from noisebound.modular import centred


def constant(ring, value):
    """Return the polynomial of an integer."""
    check_number("value", value)
    return [value % ring.q] + [0] * (ring.n - 1)


def monomial(ring, exponent, *, value=1):
    """Return the polynomial of value * X^exponent."""
    check_exponent(ring, exponent)
    check_number("value", value)
    return shift(ring, constant(ring, value), exponent)


def check_exponent(ring, exponent):
    """Refuse what is not an exponent of X below 2n."""
    check_between("exponent", exponent, 0, 2 * ring.n - 1)


def add(ring, first, second):
    """Return the sum."""
    check_polynomial(ring, first)
    check_polynomial(ring, second)
    return [(one + other) % ring.q for one, other in zip(first, second)]


def subtract(ring, first, second):
    """Return first minus second."""
    check_polynomial(ring, first)
    check_polynomial(ring, second)
    return [(one - other) % ring.q for one, other in zip(first, second)]


def negate(ring, poly):
    """Return the polynomial whose sum with this one is zero."""
    check_polynomial(ring, poly)
    return [-item % ring.q for item in poly]


def scale(ring, poly, factor):
    """Multiply each item by an integer."""
    check_polynomial(ring, poly)
    check_number("factor", factor)
    return [item * factor % ring.q for item in poly]


def shift(ring, poly, exponent):
    """Multiply by X^exponent."""
    check_polynomial(ring, poly)
    check_exponent(ring, exponent)
    # Behind X^n the items come again with the other sign, and behind X^(2n) as they are.
    around = poly + negate(ring, poly) + poly
    start = 2 * ring.n - exponent
    return around[start:start + ring.n]


def multiply_plain(ring, first, second):
    """Return the product, item by item."""
    check_polynomial(ring, first)
    check_polynomial(ring, second)
    sums = [0] * (2 * ring.n)
    for place, one in enumerate(first):
        for step, other in enumerate(second):
            sums[place + step] = sums[place + step] + one * other
    return [(low - high) % ring.q for low, high in zip(sums[:ring.n], sums[ring.n:])]


def centre(ring, poly):
    """List the centred forms of the items."""
    check_polynomial(ring, poly)
    return [centred(item, ring.q) for item in poly]


def from_centred(ring, numbers):
    """Return the polynomial of the residues of n integers of any sign."""
    check_length(numbers, ring.n)
    check_integers(numbers)
    return [number % ring.q for number in numbers]


def size(ring, poly):
    """Return the largest absolute value of a centred form."""
    return row_size(centre(ring, poly))


def weight(ring, poly):
    """Return the sum of the absolute values of the centred forms."""
    return row_weight(centre(ring, poly))


def row_size(row):
    """Return the largest absolute value in a row of integers."""
    return max([abs(number) for number in row])


def row_weight(row):
    """Return the sum of the absolute values in a row of integers."""
    return sum([abs(number) for number in row])


def evaluate(ring, poly, at):
    """Return the residue of the value of the list at an integer."""
    check_polynomial(ring, poly)
    check_number("at", at)
    return value_at(poly, at % ring.q, ring.q)


def value_at(numbers, at, q):
    """Return the residue of the sum of numbers[i] * at^i."""
    total = 0
    for number in numbers[::-1]:
        total = (total * at + number) % q
    return total
