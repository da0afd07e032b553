"""Integers modulo q: residues, powers, inverses, orders, primes and roots."""

from noisebound.checks import check_between, check_number, is_between, is_number
from noisebound.errors import NotInvertible, OutOfRange

DEGREES = (8, 16, 32, 64, 128, 256)
GREATEST_MODULUS = 4095


def check_modulus(q):
    """Refuse what is not a modulus."""
    check_between("q", q, 2, GREATEST_MODULUS)


def is_degree(value):
    """Tell if a value of any kind is a degree."""
    return is_number(value) and value in DEGREES


def check_degree(n):
    """Refuse what is not a degree."""
    if not is_degree(n):
        raise OutOfRange("n")


def residue(value, q):
    """Return the residue of value."""
    check_number("value", value)
    check_modulus(q)
    return value % q


def centred(value, q):
    """Return the centred form of value."""
    check_number("value", value)
    check_modulus(q)
    rest = value % q
    if 2 * rest > q:
        return rest - q
    return rest


def distance(first, second, q):
    """Return how far two values are from each other modulo q."""
    check_number("first", first)
    check_number("second", second)
    check_modulus(q)
    return abs(centred(first - second, q))


def power(base, exponent, q):
    """Return the residue of a power."""
    check_number("base", base)
    check_between("exponent", exponent, 0, 1000000)
    check_modulus(q)
    result = 1
    square = base % q
    left = exponent
    while left > 0:
        if left % 2 == 1:
            result = result * square % q
        square = square * square % q
        left = left // 2
    return result


def inverse(value, q):
    """Return the residue whose product with value has the residue 1."""
    check_number("value", value)
    check_modulus(q)
    divisor, factor = common_divisor(value % q, q)
    if divisor != 1:
        raise NotInvertible(value)
    return factor % q


def common_divisor(rest, q):
    """Return the greatest common divisor, and the factor of rest that gives it modulo q."""
    older, newer = q, rest
    older_factor, newer_factor = 0, 1
    while newer != 0:
        times = older // newer
        older, newer = newer, older - times * newer
        older_factor, newer_factor = newer_factor, older_factor - times * newer_factor
    return older, older_factor


def order_of(value, q):
    """Return the least exponent from 1 on whose power has the residue 1."""
    check_number("value", value)
    check_modulus(q)
    rest = value % q
    divisor, _ = common_divisor(rest, q)
    if divisor != 1:
        raise NotInvertible(value)
    exponent = 1
    reached = rest
    while reached != 1:
        reached = reached * rest % q
        exponent = exponent + 1
    return exponent


def least_divisor(value):
    """Return the least divisor above 1."""
    check_between("value", value, 2, GREATEST_MODULUS)
    divisor = 2
    while divisor * divisor <= value:
        if value % divisor == 0:
            return divisor
        divisor = divisor + 1
    return value


def is_prime(value):
    """Tell if value is a prime."""
    check_between("value", value, 0, GREATEST_MODULUS)
    return value > 1 and least_divisor(value) == value


def is_odd_prime(value):
    """Tell if a value of any kind is an odd prime below 4096."""
    return is_between(value, 3, GREATEST_MODULUS) and is_prime(value)


def primes_for(n):
    """List the primes below 4096 that are 1 more than a multiple of n."""
    check_degree(n)
    return [q for q in range(n + 1, GREATEST_MODULUS + 1, n) if is_prime(q)]


def roots_of(n, q):
    """List the residues whose (n // 2)-th power is q - 1."""
    check_degree(n)
    if not is_odd_prime(q):
        raise OutOfRange("q")
    if (q - 1) % n != 0:
        return []
    return [value for value in range(1, q) if is_root(n, q, value)]


def is_root(n, q, value):
    """Tell if value is a root for a degree and an odd prime."""
    return power(value, n // 2, q) == q - 1


def reverse_bits(count, value):
    """Turn the order of count bits around."""
    check_between("count", count, 0, 12)
    check_between("value", value, 0, (1 << count) - 1)
    return sum([((value >> place) & 1) << (count - 1 - place) for place in range(count)])
