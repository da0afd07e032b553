"""Noise: what encryption leaves on each bit, which bits come back, and papers that show it."""

from noisebound.checks import check_row, is_between
from noisebound.cipher import (
    check_message, check_letter, check_public_key, check_secret_and_letter, cipher_keys, half_message, key_errors,
    key_seeds, letter_errors, letter_parts, masked, parts_for, public_parts, public_vector, read_letter,
    spectra_of_rows,
)
from noisebound.octets import bits_of, bytes_of
from noisebound.polynomials import add, centre, from_centred, subtract
from noisebound.pressing import noise_range, press_bound, press_errors
from noisebound.sampling import check_seed
from noisebound.transform import from_spectrum
from noisebound.vectors import dot_spectra


def greatest_noise(params):
    """Return the largest absolute value of a centred form."""
    return (params.q - 1) // 2


def check_message_and_noise(params, message, noise):
    """Refuse what is not a message, then what is not a noise row."""
    check_message(params, message)
    check_row(noise, params.n, -greatest_noise(params), greatest_noise(params))


def row_sums(first, second):
    """Return the sums of two rows of integers, item by item."""
    return [one + other for one, other in zip(first, second)]


def moved_parts(y, e1, e2, cu, cv):
    """Return y, and e1 and e2 with the press errors of the letter added to them."""
    return (y, [row_sums(one, other) for one, other in zip(e1, cu)], row_sums(e2, cv))


def noise_of_parts(params, secret, error, moved):
    """Return the noise row for the vectors of a key and the moved parts of a letter."""
    y, e1, e2 = moved
    ring = params.ring
    plus = dot_spectra(ring, spectra_of_rows(params, error), spectra_of_rows(params, y))
    minus = dot_spectra(ring, spectra_of_rows(params, secret), spectra_of_rows(params, e1))
    product = from_spectrum(ring, subtract(ring, plus, minus))
    return centre(ring, add(ring, product, from_centred(ring, e2)))


def noise_row(params, key_seed, message, randomness):
    """Return the noise row of a key, a message and a randomness."""
    return noise_paper(params, key_seed, message, randomness)[7]


def noise_of_letter(params, cipher_secret, letter, message):
    """Return by how much the masked polynomial misses any message."""
    check_secret_and_letter(params, cipher_secret, letter)
    check_message(params, message)
    held = masked(params, cipher_secret, letter)
    return centre(params.ring, subtract(params.ring, held, half_message(params, message)))


def margins(params, message, noise):
    """Return how far each noise number is inside the range for its bit."""
    check_message_and_noise(params, message, noise)
    ranges = [noise_range(params.ring, bit) for bit in bits_of(message)]
    return [min(number - low, high - number) for number, (low, high) in zip(noise, ranges)]


def lost_places(params, message, noise):
    """List the places whose noise number is outside the range for its bit."""
    return [place for place, margin in enumerate(margins(params, message, noise)) if margin < 0]


def comes_back(params, message, noise):
    """Tell if no place is lost."""
    return lost_places(params, message, noise) == []


def read_back(params, message, noise):
    """Return the message with the lost bits changed."""
    lost = lost_places(params, message, noise)
    bits = bits_of(message)
    for place in lost:
        bits[place] = 1 - bits[place]
    return bytes_of(bits)


def noise_paper(params, key_seed, message, randomness):
    """Return the noise paper with the vectors that the seeds give."""
    check_seed(key_seed)
    check_message(params, message)
    check_seed(randomness)
    secret, error = key_paper(params, key_seed)
    public_key, _ = cipher_keys(params, key_seed)
    y, e1, e2 = letter_errors(params, randomness)
    u, v = letter_parts(params, public_key, message, randomness)
    cu = [press_errors(params.ring, params.u_width, poly) for poly in u]
    cv = press_errors(params.ring, params.v_width, v)
    noise = noise_of_parts(params, secret, error, moved_parts(y, e1, e2, cu, cv))
    return (secret, error, y, e1, e2, cu, cv, noise)


def is_centred_row(value, count, bound):
    """Tell if a value of any kind is a list of so many integers from -bound to bound."""
    if not isinstance(value, list) or len(value) != count:
        return False
    return all([is_between(item, -bound, bound) for item in value])


def is_centred_vector(params, value, bound):
    """Tell if a value of any kind is a list of k centred rows of n within a bound."""
    if not isinstance(value, list) or len(value) != params.k:
        return False
    return all([is_centred_row(row, params.n, bound) for row in value])


def has_noise_shape(params, paper):
    """Tell if a paper has the eight parts of a noise paper, each with its own bound."""
    if not isinstance(paper, tuple) or len(paper) != 8:
        return False
    secret, error, y, e1, e2, cu, cv, noise = paper
    vectors = (
        (secret, params.secret_width), (error, params.secret_width), (y, params.secret_width),
        (e1, params.noise_width), (cu, press_bound(params.q, params.u_width)),
    )
    rows = (
        (e2, params.noise_width), (cv, press_bound(params.q, params.v_width)), (noise, greatest_noise(params)),
    )
    if not all([is_centred_vector(params, vector, bound) for vector, bound in vectors]):
        return False
    return all([is_centred_row(row, params.n, bound) for row, bound in rows])


def is_noise_paper(params, public_key, letter, message, paper):
    """Tell if a paper shows how this letter was made and what noise it leaves."""
    check_public_key(params, public_key)
    check_letter(params, letter)
    check_message(params, message)
    if not has_noise_shape(params, paper):
        return False
    secret, error, y, e1, e2, cu, cv, noise = paper
    moved = moved_parts(y, e1, e2, cu, cv)
    if not fits_public_key(params, public_key, secret, error):
        return False
    if parts_for(params, public_key, message, moved) != read_letter(params, letter):
        return False
    return noise == noise_of_parts(params, secret, error, moved)


def key_paper(params, key_seed):
    """Return the secret and the error of a key."""
    _, error_seed = key_seeds(params, key_seed)
    return key_errors(params, error_seed)


def is_key_paper(params, public_key, paper):
    """Tell if a paper has a secret and an error of this public key."""
    check_public_key(params, public_key)
    if not isinstance(paper, tuple) or len(paper) != 2:
        return False
    if not all([is_centred_vector(params, part, params.secret_width) for part in paper]):
        return False
    secret, error = paper
    return fits_public_key(params, public_key, secret, error)


def fits_public_key(params, public_key, secret, error):
    """Tell if the vector of a public key follows from a secret and an error."""
    vector, matrix = public_parts(params, public_key)
    return vector == public_vector(params, matrix, secret, error)
