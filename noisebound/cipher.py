"""The cipher: keys from seeds, and messages as letters under a public key."""

from noisebound.checks import check_centred_vector, check_length, check_polynomial
from noisebound.hashes import hash_64
from noisebound.octets import bits_of, bytes_of, check_bytes
from noisebound.packing import pack, pack_vector, unpack, unpack_vector
from noisebound.polynomials import add, from_centred, subtract
from noisebound.pressing import press_polynomial, read_bit, unpress_polynomial
from noisebound.sampling import SEED_BYTES, check_seed, error_row, error_vector, matrix_of
from noisebound.transform import from_spectrum
from noisebound.vectors import (
    add_vectors, apply_spectra, dot_spectra, transpose, vector_from_spectra, vector_to_spectra,
)


def check_message(params, message):
    """Refuse what is not a message of the set."""
    check_bytes(message, length=params.message_bytes)


def check_public_key(params, public_key):
    """Refuse what is not a byte list with the length of a public key."""
    check_bytes(public_key, length=params.public_bytes)


def check_letter(params, letter):
    """Refuse what is not a byte list with the length of a letter."""
    check_bytes(letter, length=params.letter_bytes)


def check_secret_and_letter(params, cipher_secret, letter):
    """Refuse what is not a cipher secret, then what is not a letter."""
    check_bytes(cipher_secret, length=params.cipher_secret_bytes)
    check_letter(params, letter)


def key_seeds(params, key_seed):
    """Return the matrix seed and the error seed of a key."""
    check_seed(key_seed)
    seeds = hash_64(key_seed + [params.k])
    return (seeds[:SEED_BYTES], seeds[SEED_BYTES:])


def key_errors(params, error_seed):
    """Return the secret and the error of a key."""
    check_seed(error_seed)
    secret = error_vector(params.n, params.secret_width, error_seed, 0, params.k)
    error = error_vector(params.n, params.secret_width, error_seed, params.k, params.k)
    return (secret, error)


def residues_of_rows(params, rows):
    """Return the polynomials of the residues of rows of integers."""
    return [from_centred(params.ring, row) for row in rows]


def spectra_of_rows(params, rows):
    """Return the spectra of rows of integers."""
    return vector_to_spectra(params.ring, residues_of_rows(params, rows))


def pack_secret(params, secret):
    """Return the cipher secret of a secret."""
    check_centred_vector(secret, params.k, params.n, params.secret_width)
    return pack_vector(params.ring, spectra_of_rows(params, secret))


def public_vector(params, matrix, secret, error):
    """Return the spectra that a public key holds for a matrix, a secret and an error."""
    product = apply_spectra(params.ring, matrix, spectra_of_rows(params, secret))
    return add_vectors(params.ring, product, spectra_of_rows(params, error))


def public_parts(params, public_key):
    """Return the vector of spectra in a public key and the matrix of its seed."""
    vector = unpack_vector(params.ring, params.k, public_key[:params.cipher_secret_bytes])
    matrix = matrix_of(params.ring, params.k, public_key[params.cipher_secret_bytes:])
    return (vector, matrix)


def cipher_keys_of(params, matrix_seed, error_seed):
    """Return the public key and the cipher secret of two seeds."""
    check_seed(matrix_seed)
    check_seed(error_seed)
    secret, error = key_errors(params, error_seed)
    matrix = matrix_of(params.ring, params.k, matrix_seed)
    packed = pack_vector(params.ring, public_vector(params, matrix, secret, error))
    return (packed + matrix_seed, pack_secret(params, secret))


def cipher_keys(params, key_seed):
    """Return the public key and the cipher secret of a key seed."""
    matrix_seed, error_seed = key_seeds(params, key_seed)
    return cipher_keys_of(params, matrix_seed, error_seed)


def letter_errors(params, randomness):
    """Return the three small parts of a letter: y, e1 and e2."""
    check_seed(randomness)
    y = error_vector(params.n, params.secret_width, randomness, 0, params.k)
    e1 = error_vector(params.n, params.noise_width, randomness, params.k, params.k)
    e2 = error_row(params.n, params.noise_width, randomness, 2 * params.k)
    return (y, e1, e2)


def half_message(params, message):
    """Return the polynomial half * m of a message."""
    return [params.ring.half * bit for bit in bits_of(message)]


def parts_for(params, public_key, message, small):
    """Return u and v for the small parts y, e1 and e2."""
    y, e1, e2 = small
    vector, matrix = public_parts(params, public_key)
    spectra = spectra_of_rows(params, y)
    a = vector_from_spectra(params.ring, apply_spectra(params.ring, transpose(params.ring, matrix), spectra))
    b = from_spectrum(params.ring, dot_spectra(params.ring, vector, spectra))
    u = add_vectors(params.ring, a, residues_of_rows(params, e1))
    v = add(params.ring, add(params.ring, b, from_centred(params.ring, e2)), half_message(params, message))
    return (u, v)


def letter_parts(params, public_key, message, randomness):
    """Return u and v before pressing."""
    check_public_key(params, public_key)
    check_message(params, message)
    check_seed(randomness)
    return parts_for(params, public_key, message, letter_errors(params, randomness))


def pressed_bytes(ring, width, poly):
    """Write the codes of a polynomial."""
    return pack(width, press_polynomial(ring, width, poly))


def unpressed_polynomial(ring, width, data):
    """Read the polynomial whose codes the bytes hold."""
    return unpress_polynomial(ring, width, unpack(width, data))


def write_letter(params, u, v):
    """Return the letter of u and v."""
    check_length(u, params.k)
    for poly in u:
        check_polynomial(params.ring, poly)
    check_polynomial(params.ring, v)
    letter = []
    for poly in u:
        letter.extend(pressed_bytes(params.ring, params.u_width, poly))
    return letter + pressed_bytes(params.ring, params.v_width, v)


def read_letter(params, letter):
    """Return the u' and v' that a letter holds."""
    check_letter(params, letter)
    size = params.n * params.u_width // 8
    end = params.k * size
    u = [
        unpressed_polynomial(params.ring, params.u_width, letter[start:start + size])
        for start in range(0, end, size)
    ]
    return (u, unpressed_polynomial(params.ring, params.v_width, letter[end:]))


def encrypt(params, public_key, message, randomness):
    """Return the letter of a message."""
    u, v = letter_parts(params, public_key, message, randomness)
    return write_letter(params, u, v)


def masked(params, cipher_secret, letter):
    """Return the polynomial that holds the bits of the message and the noise."""
    check_secret_and_letter(params, cipher_secret, letter)
    secret = unpack_vector(params.ring, params.k, cipher_secret)
    u, v = read_letter(params, letter)
    product = dot_spectra(params.ring, secret, vector_to_spectra(params.ring, u))
    return subtract(params.ring, v, from_spectrum(params.ring, product))


def decrypt(params, cipher_secret, letter):
    """Return the found message of a letter."""
    return bytes_of([read_bit(params.ring, item) for item in masked(params, cipher_secret, letter)])
