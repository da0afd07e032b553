"""The cipher, the noise and the exchange once more, written as the document tells them, with plain products.

Nothing here calls the program. Hashes come from hashlib, and spectra from the sums of [33] and [36].
"""

import functools
import hashlib

from tests.test_sampling import binomials_by_the_rule, stretched_report
from tests.test_transform import root_of
from tests.tools import centred_form, product_by_sum


def hash_of(data, count):
    """SHA3-256 or SHA3-512 as a list."""
    return list({32: hashlib.sha3_256, 64: hashlib.sha3_512}[count](bytes(data)).digest())


def stretched(data, count):
    """SHAKE256 as a list."""
    return list(hashlib.shake_256(bytes(data)).digest(count))


def bits_by_text(data):
    return [int(bit) for byte in data for bit in f"{byte:08b}"[::-1]]


def bytes_by_text(bits):
    text = "".join(str(bit) for bit in bits)
    return [int(text[start:start + 8][::-1], 2) for start in range(0, len(text), 8)]


def packed(width, numbers):
    return bytes_by_text([int(bit) for number in numbers for bit in f"{number:0{width}b}"[::-1]])


def unpacked(width, data):
    text = "".join(str(bit) for bit in bits_by_text(data))
    return [int(text[start:start + width][::-1], 2) for start in range(0, len(text), width)]


def code_of(q, width, x):
    return (2 ** (width + 1) * x + q) // (2 * q) % 2 ** width


def residue_of(q, width, code):
    return (2 * q * code + 2 ** width) // 2 ** (width + 1) % q


def bound_of(q, width):
    return (q + 2 ** width) // 2 ** (width + 1)


@functools.lru_cache(maxsize=None)
def powers_of_roots(n, q, root, sign):
    """For each factor the powers of its number, with exponents from 0 on, up or down."""
    roots = [pow(root_of(n, q, root, index), sign, q) for index in range(n // 2)]
    return [[pow(number, j, q) for j in range(n // 2)] for number in roots]


def spectrum_by_sums(n, q, root, poly):
    items = []
    for powers in powers_of_roots(n, q, root, 1):
        items.append(sum(one * share for one, share in zip(poly[0::2], powers)) % q)
        items.append(sum(one * share for one, share in zip(poly[1::2], powers)) % q)
    return items


def polynomial_by_sums(n, q, root, spectrum):
    share = pow(n // 2, -1, q)
    powers = powers_of_roots(n, q, root, -1)
    poly = []
    for j in range(n // 2):
        for first in (0, 1):
            total = sum(one * row[j] for one, row in zip(spectrum[first::2], powers))
            poly.append(share * total % q)
    return poly


@functools.lru_cache(maxsize=None)
def entry_of(n, q, root, seed, column, row):
    """An entry of the matrix as a polynomial."""
    return polynomial_by_sums(n, q, root, stretched_report(n, q, list(seed), column, row)[0])


class Oracle:
    """What the document tells for one set of eight numbers."""

    def __init__(self, numbers):
        self.numbers = numbers
        self.n, self.q, self.root, self.k, self.sw, self.nw, self.uw, self.vw = numbers
        self.half = (self.q + 1) // 2
        self.quarter = (self.q - 1) // 4
        self.message_bytes = self.n // 8
        self.cipher_secret_bytes = 3 * self.n * self.k // 2
        self.public_bytes = self.cipher_secret_bytes + 32
        self.secret_bytes = self.cipher_secret_bytes + self.public_bytes + 64
        self.letter_bytes = self.n * self.k * self.uw // 8 + self.n * self.vw // 8

    def spectrum(self, poly):
        return spectrum_by_sums(self.n, self.q, self.root, poly)

    def polynomial(self, spectrum):
        return polynomial_by_sums(self.n, self.q, self.root, spectrum)

    def sum(self, *polys):
        return [sum(items) % self.q for items in zip(*polys)]

    def dot(self, first, second):
        return self.sum(*[product_by_sum(self.n, self.q, one, other) for one, other in zip(first, second)])

    def entry(self, seed, column, row):
        return entry_of(self.n, self.q, self.root, tuple(seed), column, row)

    def matrix(self, seed):
        """The matrix, as polynomials."""
        return [[self.entry(seed, column, row) for column in range(self.k)] for row in range(self.k)]

    def error_row(self, seed, counter, width):
        return binomials_by_the_rule(self.n, width, stretched([*seed, counter], self.n * width // 4))

    def error_vector(self, seed, counter, width):
        return [self.error_row(seed, counter + place, width) for place in range(self.k)]

    def seeds(self, key_seed):
        both = hash_of([*key_seed, self.k], 64)
        return (both[:32], both[32:])

    def key_errors(self, error_seed):
        return (self.error_vector(error_seed, 0, self.sw), self.error_vector(error_seed, self.k, self.sw))

    def public_vector(self, matrix_seed, secret, error):
        """The vector t, as polynomials."""
        rows = self.matrix(matrix_seed)
        return [self.sum(self.dot(row, secret), items) for row, items in zip(rows, error)]

    def pack_spectra(self, vector):
        return [byte for poly in vector for byte in packed(12, self.spectrum([item % self.q for item in poly]))]

    def unpack_spectra(self, data):
        """The vector of polynomials whose spectra are packed."""
        numbers = [number % self.q for number in unpacked(12, data)]
        return [self.polynomial(numbers[start:start + self.n]) for start in range(0, len(numbers), self.n)]

    def keys_of(self, matrix_seed, error_seed):
        secret, error = self.key_errors(error_seed)
        vector = self.public_vector(matrix_seed, secret, error)
        return (self.pack_spectra(vector) + list(matrix_seed), self.pack_spectra(secret))

    def keys(self, key_seed):
        return self.keys_of(*self.seeds(key_seed))

    def letter_errors(self, randomness):
        return (
            self.error_vector(randomness, 0, self.sw), self.error_vector(randomness, self.k, self.nw),
            self.error_row(randomness, 2 * self.k, self.nw),
        )

    def half_message(self, message):
        return [self.half * bit for bit in bits_by_text(message)]

    def parts(self, public_key, message, small):
        y, e1, e2 = small
        vector = self.unpack_spectra(public_key[:-32])
        rows = self.matrix(public_key[-32:])
        columns = [[row[place] for row in rows] for place in range(self.k)]
        u = [self.sum(self.dot(column, y), items) for column, items in zip(columns, e1)]
        return (u, self.sum(self.dot(vector, y), e2, self.half_message(message)))

    def letter_parts(self, public_key, message, randomness):
        return self.parts(public_key, message, self.letter_errors(randomness))

    def codes(self, width, poly):
        return [code_of(self.q, width, item) for item in poly]

    def write(self, u, v):
        data = [byte for poly in u for byte in packed(self.uw, self.codes(self.uw, poly))]
        return data + packed(self.vw, self.codes(self.vw, v))

    def read(self, letter):
        size = self.n * self.uw // 8
        rows = [unpacked(self.uw, letter[place * size:place * size + size]) for place in range(self.k)]
        u = [[residue_of(self.q, self.uw, code) for code in row] for row in rows]
        return (u, [residue_of(self.q, self.vw, code) for code in unpacked(self.vw, letter[self.k * size:])])

    def encrypt(self, public_key, message, randomness):
        return self.write(*self.letter_parts(public_key, message, randomness))

    def masked(self, cipher_secret, letter):
        u, v = self.read(letter)
        product = self.dot(self.unpack_spectra(cipher_secret), u)
        return [(one - other) % self.q for one, other in zip(v, product)]

    def decrypt(self, cipher_secret, letter):
        return bytes_by_text([int(self.q < 4 * x < 3 * self.q) for x in self.masked(cipher_secret, letter)])

    def press_errors(self, width, poly):
        return [centred_form(residue_of(self.q, width, code_of(self.q, width, x)) - x, self.q) for x in poly]

    def centred(self, poly):
        return [centred_form(item, self.q) for item in poly]

    def noise_sum(self, secret, error, y, e1, e2, cu, cv):
        """The noise row of [61] for any vectors."""
        moved = [[one + other for one, other in zip(row, more)] for row, more in zip(e1, cu)]
        plus, minus = self.dot(error, y), self.dot(secret, moved)
        return self.centred([a - b + c + d for a, b, c, d in zip(plus, minus, e2, cv)])

    def noise_paper(self, key_seed, message, randomness):
        matrix_seed, error_seed = self.seeds(key_seed)
        secret, error = self.key_errors(error_seed)
        small = self.letter_errors(randomness)
        u, v = self.parts(self.keys(key_seed)[0], message, small)
        cu = [self.press_errors(self.uw, poly) for poly in u]
        cv = self.press_errors(self.vw, v)
        return (secret, error, *small, cu, cv, self.noise_sum(secret, error, *small, cu, cv))

    def range_of(self, bit):
        return (-self.quarter, self.quarter - bit)

    def lost(self, message, noise):
        places = []
        for place, (bit, number) in enumerate(zip(bits_by_text(message), noise)):
            low, high = self.range_of(bit)
            if not low <= number <= high:
                places.append(place)
        return places

    def read_back(self, message, noise):
        bits = bits_by_text(message)
        for place in self.lost(message, noise):
            bits[place] ^= 1
        return bytes_by_text(bits)

    def noise_bound(self):
        share = self.k * self.n * self.sw
        return share * (self.sw + self.nw + bound_of(self.q, self.uw)) + self.nw + bound_of(self.q, self.vw)

    def always(self):
        return self.noise_bound() <= self.quarter - 1

    def make_keys(self, key_seed, fallback_seed):
        public_key, cipher_secret = self.keys(key_seed)
        return (public_key, [*cipher_secret, *public_key, *hash_of(public_key, 32), *fallback_seed])

    def key_and_randomness(self, public_key, message):
        both = hash_of([*message, *hash_of(public_key, 32)], 64)
        return (both[:32], both[32:])

    def send(self, public_key, message):
        key, randomness = self.key_and_randomness(public_key, message)
        return (key, self.encrypt(public_key, message, randomness))

    def receive_report(self, secret_key, letter):
        public_key = secret_key[self.cipher_secret_bytes:self.cipher_secret_bytes + self.public_bytes]
        message = self.decrypt(secret_key[:self.cipher_secret_bytes], letter)
        key, remade = self.send(public_key, message)
        if remade == letter:
            return (message, remade, key, "found")
        return (message, remade, stretched([*secret_key[-32:], *letter], 32), "other")


def tag_by_rule(key, number, public_key, letter):
    return stretched([*key, number, *public_key, *letter], 32)


class StarterModel:
    """The starter as [71] to [73] tell it."""

    def __init__(self, oracle, key_seed, fallback_seed):
        self.oracle = oracle
        self.public_key, self.secret_key = oracle.make_keys(key_seed, fallback_seed)
        self.state, self.key, self.accepted, self.finish = "new", None, None, None

    def start(self):
        if self.state == "new":
            self.state = "waiting"
        return [1, *self.public_key]

    def take(self, data):
        size = self.oracle.public_bytes
        if self.state == "closed":
            return ("late", None)
        if data[:1] != [2] or len(data) != 1 + size + self.oracle.letter_bytes + 32:
            return ("strange", None)
        if self.state == "new":
            return ("early", None)
        if self.state == "done":
            return ("repeated", self.finish) if data == self.accepted else ("late", None)
        public_key, letter, tag = data[1:1 + size], data[1 + size:-32], data[-32:]
        shared = self.oracle.receive_report(self.secret_key, letter)[2]
        if public_key != self.public_key or tag != tag_by_rule(shared, 2, public_key, letter):
            self.state = "closed"
            return ("refused", None)
        self.state, self.accepted = "done", data
        self.key = tag_by_rule(shared, 0, public_key, letter)
        self.finish = [3, *letter, *tag_by_rule(shared, 3, public_key, letter)]
        return ("accepted", self.finish)


class AnswererModel:
    """The answerer as [71], [72] and [74] tell it."""

    def __init__(self, oracle, message):
        self.oracle, self.message = oracle, message
        self.state, self.key, self.hello, self.reply, self.shared = "new", None, None, None, None

    def take(self, data):
        if self.state == "closed":
            return ("late", None)
        if data[:1] == [1] and len(data) == 1 + self.oracle.public_bytes:
            return self.take_hello(data)
        if data[:1] == [3] and len(data) == 1 + self.oracle.letter_bytes + 32:
            return self.take_finish(data)
        return ("strange", None)

    def take_hello(self, data):
        if self.state != "new":
            return ("repeated", self.reply) if data == self.hello else ("late", None)
        self.public_key = data[1:]
        if max(unpacked(12, self.public_key[:-32])) >= self.oracle.q:
            self.state = "closed"
            return ("refused", None)
        self.shared, self.letter = self.oracle.send(self.public_key, self.message)
        self.state, self.hello = "replied", data
        tag = tag_by_rule(self.shared, 2, self.public_key, self.letter)
        self.reply = [2, *self.public_key, *self.letter, *tag]
        return ("accepted", self.reply)

    def take_finish(self, data):
        if self.state == "new":
            return ("early", None)
        good = data[1:-32] == self.letter and data[-32:] == tag_by_rule(self.shared, 3, self.public_key, self.letter)
        if self.state == "done":
            return ("repeated" if good else "late", None)
        if not good:
            self.state = "closed"
            return ("refused", None)
        self.state, self.key = "done", tag_by_rule(self.shared, 0, self.public_key, self.letter)
        return ("accepted", None)


class TalkModel:
    """A talk as [76] and [77] tell it."""

    def __init__(self, oracle, key_seed, fallback_seed, message):
        self.ends = {"starter": StarterModel(oracle, key_seed, fallback_seed), "answerer": AnswererModel(oracle, message)}
        self.sent, self.rows = [], []

    def do(self, deed):
        verdict, answer, sender = "nothing", None, None
        if deed == ("start",):
            verdict, answer, sender = "started", self.ends["starter"].start(), "starter"
        elif deed[1] < len(self.sent) and (deed[0] == "give" or deed[2] < len(self.sent[deed[1]][1])):
            by, data = self.sent[deed[1]]
            sender = "answerer" if by == "starter" else "starter"
            if deed[0] == "turn":
                data = [*data[:deed[2]], deed[3], *data[deed[2] + 1:]]
            verdict, answer = self.ends[sender].take(data)
        number = None
        if answer is not None:
            number = len(self.sent)
            self.sent.append((sender, answer))
        self.rows.append((verdict, number, self.ends["starter"].state, self.ends["answerer"].state))
        return self.rows[-1]

    def journal(self):
        return (list(self.rows), self.ends["starter"].key, self.ends["answerer"].key)
