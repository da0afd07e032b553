import itertools
import unittest

from noisebound.cipher import (
    cipher_keys, cipher_keys_of, decrypt, encrypt, key_errors, key_seeds, letter_errors, letter_parts, masked,
    pack_secret, read_letter, write_letter,
)
from noisebound.hashes import hash_64
from noisebound.packing import pack, pack_vector, unpack
from noisebound.parameters import set_of
from noisebound.pressing import press, unpress
from noisebound.sampling import error_row, error_vector
from noisebound.transform import to_spectrum
from tests.oracle import bits_by_text, bytes_by_text
from tests.sets import (
    ALWAYS, EXACT, MIDDLE, NOISY, PUBLISHED, SMALL, SMALL_SETS, message_of, pair_of, seed_of, some_bytes,
)
from tests.tools import (
    HUGE, ProgramTest, bad_list, bad_rows, refusal, special_polynomials,
)

SEED = some_bytes("seed", 32)
OTHER_SEED = some_bytes("other seed", 32)
TWO_ROWS = (8, 281, 60, 2, 1, 3, 10, 6)
BAD_SEED = bad_list(0, 255, SEED)


def bad_bytes(count):
    """Pairs (wrong list, refusal) for a byte list of so many items."""
    return bad_list(0, 255, some_bytes("good", count))


def some_polynomials(oracle, count, start=0):
    rows = special_polynomials(oracle.n, oracle.q)
    return [rows[(start + place) % len(rows)] for place in range(count)]


class KeySeedsTest(ProgramTest):

    def test_against_the_hash(self):
        for numbers in SMALL_SETS + PUBLISHED:
            params, oracle = pair_of(numbers)
            for number in range(4):
                seed = seed_of(number)
                both = hash_64(seed + [oracle.k])
                self.same(key_seeds(params, seed), (both[:32], both[32:]))
                self.same(key_seeds(params, seed), oracle.seeds(seed))

    def test_only_k_counts(self):
        first = key_seeds(set_of((8, 97, 33, 2, 1, 1, 7, 4)), SEED)
        self.same(key_seeds(set_of((16, 17, 3, 2, 3, 2, 1, 11)), SEED), first)
        self.assertNotEqual(key_seeds(set_of((8, 97, 33, 3, 1, 1, 7, 4)), SEED), first)

    def test_calls(self):
        params, oracle = pair_of(SMALL)
        self.check_calls(key_seeds, {"params": params, "key_seed": SEED}, oracle.seeds(SEED))

    def test_refusals(self):
        params = set_of(SMALL)
        self.check_refusals(key_seeds, {"params": params, "key_seed": SEED}, {"key_seed": BAD_SEED})


class ErrorsTest(ProgramTest):

    def test_key_errors(self):
        for numbers in SMALL_SETS + MIDDLE + PUBLISHED:
            params, oracle = pair_of(numbers)
            n, k, sw = oracle.n, oracle.k, oracle.sw
            for number in range(3):
                seed = seed_of(number)
                found = key_errors(params, seed)
                self.same(found, (error_vector(n, sw, seed, 0, k), error_vector(n, sw, seed, k, k)))
                self.same(found, oracle.key_errors(seed))

    def test_letter_errors(self):
        for numbers in SMALL_SETS + MIDDLE + PUBLISHED:
            params, oracle = pair_of(numbers)
            n, k, sw, nw = oracle.n, oracle.k, oracle.sw, oracle.nw
            for number in range(3):
                seed = seed_of(number)
                expected = (error_vector(n, sw, seed, 0, k), error_vector(n, nw, seed, k, k))
                self.same(letter_errors(params, seed), (*expected, error_row(n, nw, seed, 2 * k)))
                self.same(letter_errors(params, seed), oracle.letter_errors(seed))

    def test_widths_and_counters(self):
        # Both widths apart, so that taking one for the other shows.
        params = set_of((8, 97, 33, 2, 3, 1, 7, 4))
        secret, error = key_errors(params, SEED)
        y, e1, e2 = letter_errors(params, SEED)
        self.same(secret, [error_row(8, 3, SEED, 0), error_row(8, 3, SEED, 1)])
        self.same(error, [error_row(8, 3, SEED, 2), error_row(8, 3, SEED, 3)])
        self.same(y, secret)
        self.same(e1, [error_row(8, 1, SEED, 2), error_row(8, 1, SEED, 3)])
        self.same(e2, error_row(8, 1, SEED, 4))

    def test_calls(self):
        params, oracle = pair_of(TWO_ROWS)
        self.check_calls(key_errors, {"params": params, "error_seed": SEED}, oracle.key_errors(SEED))
        self.check_calls(letter_errors, {"params": params, "randomness": SEED}, oracle.letter_errors(SEED))

    def test_refusals(self):
        params = set_of(TWO_ROWS)
        self.check_refusals(key_errors, {"params": params, "error_seed": SEED}, {"error_seed": BAD_SEED})
        self.check_refusals(letter_errors, {"params": params, "randomness": SEED}, {"randomness": BAD_SEED})


class PackSecretTest(ProgramTest):

    def secrets(self, oracle):
        n, k, sw = oracle.n, oracle.k, oracle.sw
        yield [[0] * n for _ in range(k)]
        yield [[sw] * n for _ in range(k)]
        yield [[-sw, sw] * (n // 2) for _ in range(k)]
        for number in range(3):
            yield oracle.error_vector(seed_of(number), 0, sw)

    def test_against_the_rule(self):
        for numbers in SMALL_SETS + MIDDLE + PUBLISHED[:1]:
            params, oracle = pair_of(numbers)
            for secret in self.secrets(oracle):
                self.same(pack_secret(params, secret), oracle.pack_spectra(secret))
                spectra = [to_spectrum(params.ring, [item % oracle.q for item in row]) for row in secret]
                self.same(pack_secret(params, secret), pack_vector(params.ring, spectra))

    def test_ones(self):
        # The constant -1 has the pairs (q - 1, 0) only.
        self.same(pack_secret(set_of(SMALL), [[-1] + [0] * 7]), pack(12, [96, 0] * 4))

    def test_calls(self):
        params, oracle = pair_of(TWO_ROWS)
        secret = [[1, 0, -1, 0, 1, 1, 0, -1], [0, 0, 0, 0, 0, 0, 0, -1]]
        self.check_calls(pack_secret, {"params": params, "secret": secret}, oracle.pack_spectra(secret))

    def test_refusals(self):
        for numbers in (SMALL, TWO_ROWS, (16, 97, 8, 4, 2, 3, 3, 5), (8, 17, 9, 2, 3, 1, 4, 5)):
            n, _, _, k, sw, _, _, _ = numbers
            row = [sw, -sw] * (n // 2)
            vector = [list(row) for _ in range(k)]
            bad = {"secret": bad_rows(vector, bad_list(-sw, sw, row))}
            self.check_refusals(pack_secret, {"params": set_of(numbers), "secret": vector}, bad)


class KeysTest(ProgramTest):

    def test_against_the_rule(self):
        for numbers in SMALL_SETS + MIDDLE + PUBLISHED:
            params, oracle = pair_of(numbers)
            for number in range(3 if oracle.n <= 16 else 1):
                seed, other = seed_of(number), seed_of(number + 10)
                public_key, cipher_secret = oracle.keys_of(seed, other)
                self.same(cipher_keys_of(params, seed, other), (public_key, cipher_secret))
                self.same(len(public_key), params.public_bytes)
                self.same(len(cipher_secret), params.cipher_secret_bytes)
                self.same(cipher_keys(params, seed), oracle.keys(seed))

    def test_two_seeds_of_one(self):
        for numbers in SMALL_SETS + PUBLISHED:
            params, _ = pair_of(numbers)
            matrix_seed, error_seed = key_seeds(params, SEED)
            self.same(cipher_keys(params, SEED), cipher_keys_of(params, matrix_seed, error_seed))

    def test_numbers_are_below_q(self):
        for numbers in SMALL_SETS:
            params, oracle = pair_of(numbers)
            public_key, cipher_secret = cipher_keys(params, SEED)
            for data in (public_key[:-32], cipher_secret):
                self.assertLess(max(unpack(12, data)), oracle.q)

    def test_what_depends_on_what(self):
        for numbers in SMALL_SETS + PUBLISHED:
            params, _ = pair_of(numbers)
            public_key, cipher_secret = cipher_keys_of(params, SEED, OTHER_SEED)
            self.same(public_key[-32:], SEED)
            self.same(cipher_keys_of(params, OTHER_SEED, OTHER_SEED)[1], cipher_secret)
            self.same(pack_secret(params, key_errors(params, OTHER_SEED)[0]), cipher_secret)
            self.assertNotEqual(cipher_keys_of(params, OTHER_SEED, OTHER_SEED)[0][:-32], public_key[:-32])
            self.assertNotEqual(cipher_keys_of(params, SEED, SEED)[1], cipher_secret)

    def test_calls(self):
        params, oracle = pair_of(TWO_ROWS)
        good = {"params": params, "matrix_seed": SEED, "error_seed": OTHER_SEED}
        self.check_calls(cipher_keys_of, good, oracle.keys_of(SEED, OTHER_SEED))
        self.check_calls(cipher_keys, {"params": params, "key_seed": SEED}, oracle.keys(SEED))

    def test_refusals(self):
        params = set_of(TWO_ROWS)
        good = {"params": params, "matrix_seed": SEED, "error_seed": OTHER_SEED}
        self.check_refusals(cipher_keys_of, good, {"matrix_seed": BAD_SEED, "error_seed": BAD_SEED})
        self.check_refusals(cipher_keys, {"params": params, "key_seed": SEED}, {"key_seed": BAD_SEED})


class LetterPartsTest(ProgramTest):

    def test_against_the_rule(self):
        for numbers in SMALL_SETS + MIDDLE + PUBLISHED:
            params, oracle = pair_of(numbers)
            for number in range(4 if oracle.n <= 16 else 1):
                public_key = oracle.keys(seed_of(number))[0]
                message = message_of(number, oracle.message_bytes)
                randomness = seed_of(number + 20)
                expected = oracle.letter_parts(public_key, message, randomness)
                self.same(letter_parts(params, public_key, message, randomness), expected)
                self.same(encrypt(params, public_key, message, randomness), oracle.write(*expected))

    def test_any_public_keys(self):
        for numbers in SMALL_SETS + MIDDLE:
            params, oracle = pair_of(numbers)
            for public_key in (
                [0] * oracle.public_bytes, [255] * oracle.public_bytes, some_bytes("public", oracle.public_bytes),
            ):
                message = message_of(3, oracle.message_bytes)
                expected = oracle.letter_parts(public_key, message, SEED)
                self.same(letter_parts(params, public_key, message, SEED), expected)
                self.same(encrypt(params, public_key, message, SEED), oracle.write(*expected))

    def test_numbers_modulo_q(self):
        # 97 to 4095 stand for the same residues as the numbers that are below 97.
        params, oracle = pair_of(SMALL)
        low = [0, 1, 2, 95, 96, 50, 20, 7]
        high = [97, 98, 97 * 40 + 2, 4074 + 95 - 97, 96 + 97 * 41, 50 + 97 * 2, 20, 7]
        one, other = pack(12, low) + SEED, pack(12, high) + SEED
        self.assertEqual([item % 97 for item in high], low)
        self.assertNotEqual(one, other)
        self.same(letter_parts(params, other, [77], OTHER_SEED), letter_parts(params, one, [77], OTHER_SEED))
        self.same(encrypt(params, other, [77], OTHER_SEED), encrypt(params, one, [77], OTHER_SEED))
        self.same(letter_parts(params, one, [77], OTHER_SEED), oracle.letter_parts(one, [77], OTHER_SEED))

    def test_every_message_of_a_small_set(self):
        params, oracle = pair_of(SMALL)
        public_key = oracle.keys(SEED)[0]
        u, v = oracle.letter_parts(public_key, [0], OTHER_SEED)
        for byte in range(256):
            found = letter_parts(params, public_key, [byte], OTHER_SEED)
            self.same(found, (u, [(x + 49 * bit) % 97 for x, bit in zip(v, bits_by_text([byte]))]))

    def test_calls(self):
        params, oracle = pair_of(TWO_ROWS)
        public_key = oracle.keys(SEED)[0]
        good = {"params": params, "public_key": public_key, "message": [201], "randomness": OTHER_SEED}
        self.check_calls(letter_parts, good, oracle.letter_parts(public_key, [201], OTHER_SEED))
        self.check_calls(encrypt, good, oracle.encrypt(public_key, [201], OTHER_SEED))

    def test_refusals(self):
        for numbers in (SMALL, (16, 97, 8, 4, 2, 3, 3, 5)):
            params, oracle = pair_of(numbers)
            good = {"params": params, "public_key": oracle.keys(SEED)[0]}
            good |= {"message": message_of(2, oracle.message_bytes), "randomness": SEED}
            bad = {"public_key": bad_bytes(oracle.public_bytes), "randomness": BAD_SEED}
            bad["message"] = bad_bytes(oracle.message_bytes) if oracle.message_bytes > 1 else BAD_BYTE
            self.check_refusals(letter_parts, good, bad)
            self.check_refusals(encrypt, good, bad)


# Wrong lists for a message of one byte.
BAD_BYTE = [([], ("BadLength", 1, 0)), ([1, 2], ("BadLength", 1, 2)), ([None] * 2, ("BadLength", 1, 2))]
BAD_BYTE += [([value], ("BadItem", 0)) for value in (256, -1, True, False, None, "1", [1], (1,), 1.0, HUGE, -HUGE, 1000)]


class LetterTest(ProgramTest):

    def test_item_by_item(self):
        for numbers in SMALL_SETS + MIDDLE + EXACT + PUBLISHED:
            params, oracle = pair_of(numbers)
            for start in range(7 if oracle.n <= 16 else 2):
                u, v = some_polynomials(oracle, oracle.k, start), some_polynomials(oracle, 1, start + 3)[0]
                expected = []
                for width, poly in [*[(oracle.uw, poly) for poly in u], (oracle.vw, v)]:
                    expected += pack(width, [press(oracle.q, width, item) for item in poly])
                letter = write_letter(params, u, v)
                self.same(letter, expected)
                self.same(letter, oracle.write(u, v))
                self.same(len(letter), params.letter_bytes)
                self.check_read(params, oracle, letter)

    def check_read(self, params, oracle, letter):
        size = oracle.n * oracle.uw // 8
        parts = [letter[place * size:place * size + size] for place in range(oracle.k)]
        u = [[unpress(oracle.q, oracle.uw, code) for code in unpack(oracle.uw, part)] for part in parts]
        v = [unpress(oracle.q, oracle.vw, code) for code in unpack(oracle.vw, letter[oracle.k * size:])]
        self.same(read_letter(params, letter), (u, v))
        self.same(read_letter(params, letter), oracle.read(letter))

    def test_any_letters(self):
        for numbers in SMALL_SETS + MIDDLE + EXACT + PUBLISHED:
            params, oracle = pair_of(numbers)
            count = oracle.letter_bytes
            for letter in ([0] * count, [255] * count, some_bytes("letter", count), some_bytes("other", count)):
                self.check_read(params, oracle, letter)

    def test_every_width(self):
        for width in range(1, 12):
            for numbers in ((8, 97, 33, 2, 1, 1, width, 12 - width), (16, 4049, 276, 1, 1, 1, width, width)):
                params, oracle = pair_of(numbers)
                u, v = some_polynomials(oracle, oracle.k, 4), some_polynomials(oracle, 1, 6)[0]
                letter = write_letter(params, u, v)
                self.same(letter, oracle.write(u, v))
                self.check_read(params, oracle, letter)
                self.check_read(params, oracle, some_bytes("letter", oracle.letter_bytes))

    def test_exact_sets_keep_all(self):
        for numbers in EXACT:
            params, oracle = pair_of(numbers)
            for start in range(7):
                u, v = some_polynomials(oracle, oracle.k, start), some_polynomials(oracle, 1, start + 1)[0]
                self.same(read_letter(params, write_letter(params, u, v)), (u, v))

    def test_by_hand(self):
        # q = 17 with one bit each: the codes of 5 to 12 are 1.
        params = set_of((8, 17, 2, 1, 1, 1, 1, 1))
        self.same(write_letter(params, [[0, 4, 5, 12, 13, 16, 8, 9]], [5, 4, 0, 0, 0, 0, 0, 12]), [0b11001100, 0b10000001])
        self.same(read_letter(params, [0b00000110, 255]), ([[0, 9, 9, 0, 0, 0, 0, 0]], [9] * 8))

    def test_calls(self):
        params, oracle = pair_of(TWO_ROWS)
        u, v = some_polynomials(oracle, 2, 4), some_polynomials(oracle, 1, 6)[0]
        letter = oracle.write(u, v)
        self.check_calls(write_letter, {"params": params, "u": u, "v": v}, letter)
        self.check_calls(read_letter, {"params": params, "letter": letter}, oracle.read(letter))

    def test_refusals(self):
        for numbers in (SMALL, TWO_ROWS, (16, 97, 8, 4, 2, 3, 3, 5)):
            params, oracle = pair_of(numbers)
            u, v = some_polynomials(oracle, oracle.k, 4), some_polynomials(oracle, 1, 6)[0]
            polys = bad_list(0, oracle.q - 1, v)
            good = {"params": params, "u": u, "v": v}
            self.check_refusals(write_letter, good, {"u": bad_rows(u, polys), "v": polys})
            letter = oracle.write(u, v)
            bad = {"letter": bad_bytes(oracle.letter_bytes)}
            self.check_refusals(read_letter, {"params": params, "letter": letter}, bad)


class DecryptTest(ProgramTest):

    def check_letter(self, params, oracle, cipher_secret, letter):
        polynomial = oracle.masked(cipher_secret, letter)
        self.same(masked(params, cipher_secret, letter), polynomial)
        self.same(decrypt(params, cipher_secret, letter), oracle.decrypt(cipher_secret, letter))
        bits = [int(oracle.q < 4 * item < 3 * oracle.q) for item in polynomial]
        self.same(decrypt(params, cipher_secret, letter), bytes_by_text(bits))

    def test_sent_letters(self):
        for numbers in SMALL_SETS + MIDDLE + PUBLISHED:
            params, oracle = pair_of(numbers)
            for number in range(4 if oracle.n <= 16 else 1):
                public_key, cipher_secret = oracle.keys(seed_of(number))
                message = message_of(number, oracle.message_bytes)
                letter = oracle.encrypt(public_key, message, seed_of(number + 20))
                self.check_letter(params, oracle, cipher_secret, letter)
                if numbers in ALWAYS + PUBLISHED:
                    self.same(decrypt(params, cipher_secret, letter), message)

    def test_any_byte_lists(self):
        for numbers in SMALL_SETS + MIDDLE + EXACT:
            params, oracle = pair_of(numbers)
            lists = []
            for count in (oracle.cipher_secret_bytes, oracle.letter_bytes):
                lists.append([[0] * count, [255] * count, some_bytes("any", count), some_bytes("more", count)])
            for cipher_secret, letter in itertools.product(*lists):
                self.check_letter(params, oracle, cipher_secret, letter)

    def test_messages_are_lost_in_noisy_sets(self):
        lost = 0
        for numbers in NOISY:
            params, oracle = pair_of(numbers)
            public_key, cipher_secret = cipher_keys(params, SEED)
            for number in range(4):
                message = message_of(number, oracle.message_bytes)
                letter = encrypt(params, public_key, message, seed_of(number + 20))
                self.same(decrypt(params, cipher_secret, letter), oracle.decrypt(cipher_secret, letter))
                lost += decrypt(params, cipher_secret, letter) != message
        self.assertGreater(lost, 0)

    def test_secret_numbers_modulo_q(self):
        params, oracle = pair_of(SMALL)
        low = [0, 1, 96, 50, 13, 60, 2, 95]
        one, other = pack(12, low), pack(12, [item + 97 * 40 for item in low])
        letter = some_bytes("letter", oracle.letter_bytes)
        self.same(masked(params, other, letter), masked(params, one, letter))
        self.same(masked(params, one, letter), oracle.masked(one, letter))

    def test_calls(self):
        params, oracle = pair_of(TWO_ROWS)
        cipher_secret, letter = oracle.keys(SEED)[1], some_bytes("letter", oracle.letter_bytes)
        good = {"params": params, "cipher_secret": cipher_secret, "letter": letter}
        self.check_calls(masked, good, oracle.masked(cipher_secret, letter))
        self.check_calls(decrypt, good, oracle.decrypt(cipher_secret, letter))

    def test_refusals(self):
        for numbers in (SMALL, (16, 97, 8, 4, 2, 3, 3, 5)):
            params, oracle = pair_of(numbers)
            good = {"params": params, "cipher_secret": oracle.keys(SEED)[1]}
            good["letter"] = some_bytes("letter", oracle.letter_bytes)
            bad = {"cipher_secret": bad_bytes(oracle.cipher_secret_bytes), "letter": bad_bytes(oracle.letter_bytes)}
            self.check_refusals(masked, good, bad)
            self.check_refusals(decrypt, good, bad)


class FactsTest(ProgramTest):

    def test_randomness_alone(self):
        for numbers in SMALL_SETS:
            params, oracle = pair_of(numbers)
            one = letter_errors(params, SEED)
            for seed in (SEED, OTHER_SEED):
                public_key = cipher_keys(params, seed)[0]
                for number in range(3):
                    message = message_of(number, oracle.message_bytes)
                    found = letter_parts(params, public_key, message, SEED)
                    self.same(found, oracle.parts(public_key, message, one))

    def test_same_part_u_for_every_message(self):
        for numbers in SMALL_SETS:
            params, oracle = pair_of(numbers)
            public_key = cipher_keys(params, SEED)[0]
            found = [letter_parts(params, public_key, message_of(number, oracle.message_bytes), SEED)[0]
                     for number in range(4)]
            self.same(found, [found[0]] * 4)

    def test_a_used_set(self):
        params, oracle = pair_of(TWO_ROWS)
        for _ in range(2):
            used = cipher_keys(params, SEED)
            self.same(used, cipher_keys(set_of(TWO_ROWS), SEED))
            letter = encrypt(params, used[0], [8], SEED)
            self.same(letter, encrypt(set_of(TWO_ROWS), used[0], [8], SEED))
            self.same(decrypt(params, used[1], letter), [8])
        self.same(refusal(decrypt, params, used[1], letter[1:]), ("BadLength", oracle.letter_bytes, len(letter) - 1))
        self.same(decrypt(params, used[1], letter), [8])


if __name__ == "__main__":
    unittest.main()
