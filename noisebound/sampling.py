"""Sampling: uniform numbers and small errors from bytes and from seeds."""

from noisebound.checks import check_between, is_same
from noisebound.hashes import Stretcher, stretch_256
from noisebound.modular import check_degree, check_modulus
from noisebound.octets import bits_of, check_bytes

SEED_BYTES = 32
BLOCK_BYTES = 168
MOST_BYTES = 2688


def check_seed(seed):
    """Refuse what is not a seed."""
    check_bytes(seed, length=SEED_BYTES)


def check_entry(seed, column, row):
    """Refuse what does not name an entry of a matrix."""
    check_seed(seed)
    check_between("column", column, 0, 255)
    check_between("row", row, 0, 255)


def check_errors(n, width):
    """Refuse what is not a degree, then what is not an error width."""
    check_degree(n)
    check_between("width", width, 1, 3)


def pieces(data):
    """List the pieces of twelve bits, two for each three bytes."""
    check_bytes(data)
    found = []
    for start in range(0, len(data) - 2, 3):
        low, middle, high = data[start:start + 3]
        found.extend([low + 256 * (middle % 16), middle // 16 + 16 * high])
    return found


def piece_limit(q):
    """Return the least number from which on a piece is skipped."""
    check_modulus(q)
    return q * (4096 // q)


def uniform_from_bytes(ring, data):
    """Read up to n residues, and tell the skipped pieces and how many were read."""
    limit = piece_limit(ring.q)
    values = []
    skipped = []
    used = 0
    for piece in pieces(data):
        if len(values) == ring.n:
            break
        if piece < limit:
            values.append(piece % ring.q)
        else:
            skipped.append(used)
        used = used + 1
    return (values, skipped, used)


def filled_report(ring, data):
    """Return the report with zeros for the missing values, and their number."""
    values, skipped, used = uniform_from_bytes(ring, data)
    filled = ring.n - len(values)
    return (values + [0] * filled, skipped, used, filled)


def is_uniform_report(ring, data, paper):
    """Tell if a paper is the report of these bytes."""
    return is_same(paper, uniform_from_bytes(ring, data))


def uniform_report(ring, seed, column, row):
    """Return the filled report of the bytes that a seed, a column and a row stretch to."""
    check_entry(seed, column, row)
    stretcher = Stretcher(seed + [column, row], strength=128)
    data = stretcher.read(BLOCK_BYTES)
    report = filled_report(ring, data)
    # The values are mostly found in a few blocks, so later ones are made only if some are missing.
    while report[3] > 0 and len(data) < MOST_BYTES:
        data = data + stretcher.read(BLOCK_BYTES)
        report = filled_report(ring, data)
    return report


def uniform_polynomial(ring, seed, column, row):
    """Return the values of the filled report."""
    return uniform_report(ring, seed, column, row)[0]


def matrix_of(ring, k, seed):
    """Return the matrix of k rows and k columns, whose entries are used as spectra."""
    check_between("k", k, 1, 4)
    check_seed(seed)
    return [[uniform_polynomial(ring, seed, column, row) for column in range(k)] for row in range(k)]


def binomial_from_bytes(n, width, data):
    """Return n integers, each one sum of bits minus another one."""
    check_errors(n, width)
    check_bytes(data, length=n * width // 4)
    bits = bits_of(data)
    sums = [sum(bits[start:start + width]) for start in range(0, len(bits), width)]
    return [plus - minus for plus, minus in zip(sums[0::2], sums[1::2])]


def error_row(n, width, seed, counter):
    """Return the binomial numbers that a seed and a counter stretch to."""
    check_errors(n, width)
    check_seed(seed)
    check_between("counter", counter, 0, 255)
    return binomial_from_bytes(n, width, stretch_256(seed + [counter], n * width // 4))


def error_vector(n, width, seed, counter, count):
    """Return the error rows of consecutive counters."""
    check_errors(n, width)
    check_seed(seed)
    check_between("counter", counter, 0, 200)
    check_between("count", count, 1, 4)
    return [error_row(n, width, seed, counter + place) for place in range(count)]
