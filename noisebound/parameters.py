"""Parameter sets: eight numbers that belong together, and the lengths that follow from them."""

from noisebound.checks import check_length, is_between
from noisebound.errors import BadParameters, BadText, UnknownName
from noisebound.rings import Ring, ring_fault

PUBLISHED = (
    ("ML-KEM-512", (256, 3329, 17, 2, 3, 2, 10, 4)),
    ("ML-KEM-768", (256, 3329, 17, 3, 2, 2, 10, 4)),
    ("ML-KEM-1024", (256, 3329, 17, 4, 2, 2, 11, 5)),
)
DIGITS = "0123456789"


def parameter_fault(*, n, q, root, k, secret_width, noise_width, u_width, v_width):
    """Return the first broken demand, or None."""
    fault = ring_fault(n, q, root)
    if fault is not None:
        return fault
    others = (
        ("k", k, 4),
        ("secret_width", secret_width, 3),
        ("noise_width", noise_width, 3),
        ("u_width", u_width, 11),
        ("v_width", v_width, 11),
    )
    for demand, value, greatest in others:
        if not is_between(value, 1, greatest):
            return demand
    return None


class ParameterSet:
    """The eight numbers of a set and what follows from them."""

    def __init__(self, *, n, q, root, k, secret_width, noise_width, u_width, v_width):
        fault = parameter_fault(
            n=n, q=q, root=root, k=k,
            secret_width=secret_width, noise_width=noise_width, u_width=u_width, v_width=v_width,
        )
        if fault is not None:
            raise BadParameters(fault)
        self.ring = Ring(n, q, root)
        self.n = n
        self.q = q
        self.root = root
        self.k = k
        self.secret_width = secret_width
        self.noise_width = noise_width
        self.u_width = u_width
        self.v_width = v_width
        self.numbers = (n, q, root, k, secret_width, noise_width, u_width, v_width)
        self.message_bytes = n // 8
        self.cipher_secret_bytes = 3 * n * k // 2
        self.public_bytes = self.cipher_secret_bytes + 32
        self.secret_bytes = self.cipher_secret_bytes + self.public_bytes + 64
        self.letter_bytes = n * k * u_width // 8 + n * v_width // 8

    def __eq__(self, other):
        return isinstance(other, ParameterSet) and self.numbers == other.numbers


def set_of(numbers):
    """Return the set of eight numbers in their order."""
    check_length(numbers, 8)
    n, q, root, k, secret_width, noise_width, u_width, v_width = numbers
    return ParameterSet(
        n=n, q=q, root=root, k=k,
        secret_width=secret_width, noise_width=noise_width, u_width=u_width, v_width=v_width,
    )


def published_names():
    """List the names of the published sets."""
    return [row[0] for row in PUBLISHED]


def published(name):
    """Return the published set of this name."""
    for known, numbers in PUBLISHED:
        if known == name:
            return set_of(numbers)
    raise UnknownName(name)


def name_of(params):
    """Return the published name of a set, or None."""
    for known, numbers in PUBLISHED:
        if numbers == params.numbers:
            return known
    return None


def set_line(params):
    """Write the eight numbers as a text."""
    return " ".join([str(number) for number in params.numbers])


def read_set_line(text):
    """Return the set of a set line."""
    words = text.split(" ")
    check_length(words, 8)
    for index, word in enumerate(words):
        if not is_decimal(word, 4):
            raise BadText(index)
    return set_of([int(word) for word in words])


def is_decimal(word, most):
    """Tell if a word is the decimal form of an integer, in one to so many digits."""
    if not 1 <= len(word) <= most or (word[0] == "0" and word != "0"):
        return False
    return all([character in DIGITS for character in word])
