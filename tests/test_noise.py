import copy
import itertools
import unittest

from noisebound.bounds import key_always, key_bound, noise_bound
from noisebound.cipher import cipher_keys, decrypt, encrypt, masked, pack_secret
from noisebound.noise import (
    comes_back, is_key_paper, is_noise_paper, key_paper, lost_places, margins, noise_of_letter, noise_paper, noise_row,
    read_back,
)
from noisebound.parameters import set_of
from tests.oracle import bits_by_text, bound_of, bytes_by_text
from tests.sets import (
    ALWAYS, EXACT, MIDDLE, NOISY, PUBLISHED, SMALL, SMALL_SETS, message_of, pair_of, seed_of, some_bytes,
)
from tests.test_cipher import BAD_BYTE, BAD_SEED, OTHER_SEED, SEED, TWO_ROWS, bad_bytes
from tests.tools import ANY_PAPERS, ProgramTest, bad_list, bent_papers, refusal

# Its greatest noise number is 36, its quarter 18, so noise can reach both ends of both ranges.
WIDE = (8, 73, 10, 1, 1, 1, 1, 1)


def letter_for(oracle, key_seed, message, randomness):
    return oracle.encrypt(oracle.keys(key_seed)[0], message, randomness)


def some_cases(oracle, count):
    for number in range(count):
        yield (seed_of(number), message_of(number, oracle.message_bytes), seed_of(number + 20))


class NoiseRowTest(ProgramTest):

    def test_against_the_sum(self):
        for numbers in SMALL_SETS + EXACT + MIDDLE + PUBLISHED[:1]:
            params, oracle = pair_of(numbers)
            for case in some_cases(oracle, 4 if oracle.n <= 16 else 1):
                self.same(noise_row(params, *case), oracle.noise_paper(*case)[7])

    def test_against_the_masked_polynomial(self):
        for numbers in SMALL_SETS + EXACT + MIDDLE + PUBLISHED:
            params, oracle = pair_of(numbers)
            for seed, message, randomness in some_cases(oracle, 4 if oracle.n <= 16 else 1):
                public_key, cipher_secret = cipher_keys(params, seed)
                letter = encrypt(params, public_key, message, randomness)
                row = noise_row(params, seed, message, randomness)
                half = oracle.half_message(message)
                self.same(oracle.masked(cipher_secret, letter), oracle.sum(half, row))
                self.same(masked(params, cipher_secret, letter), oracle.sum(half, row))
                self.same(noise_of_letter(params, cipher_secret, letter, message), row)
                self.assertLessEqual(max(abs(number) for number in row), oracle.q // 2)
                self.assertLessEqual(max(abs(number) for number in row), noise_bound(params))
                secret, error = key_paper(params, seed)
                self.assertLessEqual(max(abs(number) for number in row), key_bound(params, secret, error))

    def test_exact_sets_have_one_row(self):
        for numbers in EXACT:
            params, oracle = pair_of(numbers)
            rows = [noise_row(params, SEED, message_of(number, oracle.message_bytes), OTHER_SEED) for number in range(6)]
            self.same(rows, [rows[0]] * 6)

    def test_other_sets_have_several_rows(self):
        params, _ = pair_of((8, 97, 33, 1, 1, 1, 7, 2))
        rows = [noise_row(params, SEED, [byte], OTHER_SEED) for byte in range(256)]
        self.assertGreater(len({tuple(row) for row in rows}), 1)

    def test_calls(self):
        params, oracle = pair_of(TWO_ROWS)
        good = {"params": params, "key_seed": SEED, "message": [99], "randomness": OTHER_SEED}
        expected = oracle.noise_paper(SEED, [99], OTHER_SEED)
        self.check_calls(noise_row, good, expected[7])
        self.check_calls(noise_paper, good, expected)

    def test_refusals(self):
        for numbers in (SMALL, (16, 97, 8, 4, 2, 3, 3, 5)):
            params, oracle = pair_of(numbers)
            good = {"params": params, "key_seed": SEED, "message": message_of(2, oracle.message_bytes)}
            good["randomness"] = OTHER_SEED
            bad = {"key_seed": BAD_SEED, "message": bad_message(oracle), "randomness": BAD_SEED}
            self.check_refusals(noise_row, good, bad)
            self.check_refusals(noise_paper, good, bad)


def bad_message(oracle):
    return BAD_BYTE if oracle.message_bytes == 1 else bad_bytes(oracle.message_bytes)


class NoiseOfLetterTest(ProgramTest):

    def test_any_letters_and_messages(self):
        for numbers in SMALL_SETS + MIDDLE:
            params, oracle = pair_of(numbers)
            for number in range(3):
                cipher_secret = some_bytes(number, oracle.cipher_secret_bytes)
                letter = some_bytes(number, oracle.letter_bytes)
                held = oracle.masked(cipher_secret, letter)
                for other in range(3):
                    message = message_of(other, oracle.message_bytes)
                    rest = [one - two for one, two in zip(held, oracle.half_message(message))]
                    self.same(noise_of_letter(params, cipher_secret, letter, message), oracle.centred(rest))

    def test_every_message(self):
        # With the noise that a letter has for a message, the found message is always the one that is read back.
        params, oracle = pair_of((8, 17, 9, 2, 3, 1, 4, 5))
        cipher_secret, letter = oracle.keys(SEED)[1], some_bytes("letter", oracle.letter_bytes)
        found = oracle.decrypt(cipher_secret, letter)
        for byte in range(256):
            noise = noise_of_letter(params, cipher_secret, letter, [byte])
            self.same(read_back(params, [byte], noise), found)

    def test_calls(self):
        params, oracle = pair_of(TWO_ROWS)
        cipher_secret, letter = oracle.keys(SEED)[1], letter_for(oracle, SEED, [77], OTHER_SEED)
        good = {"params": params, "cipher_secret": cipher_secret, "letter": letter, "message": [77]}
        self.check_calls(noise_of_letter, good, oracle.noise_paper(SEED, [77], OTHER_SEED)[7])

    def test_refusals(self):
        for numbers in (SMALL, (16, 97, 8, 4, 2, 3, 3, 5)):
            params, oracle = pair_of(numbers)
            good = {"params": params, "cipher_secret": oracle.keys(SEED)[1]}
            good |= {"letter": some_bytes("l", oracle.letter_bytes), "message": message_of(2, oracle.message_bytes)}
            bad = {"cipher_secret": bad_bytes(oracle.cipher_secret_bytes), "letter": bad_bytes(oracle.letter_bytes)}
            bad["message"] = bad_message(oracle)
            self.check_refusals(noise_of_letter, good, bad)


class RangesTest(ProgramTest):

    def check_row(self, params, oracle, message, noise):
        lost = oracle.lost(message, noise)
        self.same(lost_places(params, message, noise), lost)
        self.assertIs(comes_back(params, message, noise), lost == [])
        self.same(read_back(params, message, noise), oracle.read_back(message, noise))
        expected = []
        for bit, number in zip(bits_by_text(message), noise):
            low, high = oracle.range_of(bit)
            expected.append(min(number - low, high - number))
        self.same(margins(params, message, noise), expected)
        self.same([place for place, margin in enumerate(expected) if margin < 0], lost)
        # A bit is read back exactly as the residue of m * half + noise is read.
        residues = oracle.sum(oracle.half_message(message), noise)
        self.same(read_back(params, message, noise), bytes_by_text([int(oracle.q < 4 * x < 3 * oracle.q) for x in residues]))

    def test_both_ends_of_each_bit(self):
        for numbers in SMALL_SETS:
            params, oracle = pair_of(numbers)
            most, quarter = (oracle.q - 1) // 2, oracle.quarter
            ends = (0, quarter - 1, quarter, quarter + 1, most, -quarter + 1, -quarter, -quarter - 1, -most)
            for number in ends:
                for other in (0, quarter, -quarter):
                    noise = [number, other] * (oracle.n // 2)
                    for message in ([0] * oracle.message_bytes, [255] * oracle.message_bytes, [90] * oracle.message_bytes):
                        self.check_row(params, oracle, message, noise)

    def test_lost_and_not_lost(self):
        params = set_of(SMALL)
        zeros = [0] * 8
        for place in range(8):
            for bit, number, lost in (
                (0, 24, False), (0, 25, True), (0, -24, False), (0, -25, True), (1, 23, False), (1, 24, True),
                (1, -24, False), (1, -25, True), (0, 48, True), (1, -48, True), (0, 0, False), (1, 0, False),
            ):
                message, noise = [bit << place], [*zeros[:place], number, *zeros[place + 1:]]
                self.same(lost_places(params, message, noise), [place] if lost else [])
                self.assertIs(comes_back(params, message, noise), not lost)
                self.same(read_back(params, message, noise), [message[0] ^ (lost << place)])
                self.same(margins(params, message, noise)[place], min(number + 24, 24 - bit - number))

    def test_every_number(self):
        params, oracle = pair_of((8, 17, 2, 1, 1, 1, 1, 1))
        for number in range(-8, 9):
            for message in ([0], [255], [170]):
                self.check_row(params, oracle, message, [number] * 8)

    def test_every_message_and_some_rows(self):
        params, oracle = pair_of(WIDE)
        rows = [[36, -36, 18, -18, 17, 19, -19, 0], [0] * 8, [19] * 8, [18] * 8, [-18] * 8, [-19] * 8]
        for byte in range(256):
            for noise in rows:
                self.check_row(params, oracle, [byte], noise)

    def test_great_sets(self):
        for numbers in MIDDLE + PUBLISHED:
            params, oracle = pair_of(numbers)
            for number in range(3):
                noise = [value % oracle.q - oracle.q // 2 for value in range(number, 13 * oracle.n, 13)]
                self.check_row(params, oracle, message_of(number, oracle.message_bytes), noise)

    def test_calls(self):
        params = set_of(SMALL)
        good = {"params": params, "message": [129], "noise": [24, 25, 0, -24, -25, 48, -48, 23]}
        self.check_calls(lost_places, good, [0, 1, 4, 5, 6])
        self.check_calls(comes_back, good, False)
        self.check_calls(comes_back, {**good, "noise": [23] * 8}, True)
        self.check_calls(margins, good, [-1, -1, 24, 0, -1, -24, -24, 0])
        self.check_calls(read_back, good, [129 ^ 0b01110011])

    def test_refusals(self):
        for numbers in (SMALL, (16, 97, 8, 4, 2, 3, 3, 5), (8, 17, 2, 1, 1, 1, 1, 1)):
            params, oracle = pair_of(numbers)
            most = (oracle.q - 1) // 2
            noise = [most, -most] * (oracle.n // 2)
            good = {"params": params, "message": message_of(2, oracle.message_bytes), "noise": noise}
            bad = {"message": bad_message(oracle), "noise": bad_list(-most, most, noise)}
            for function in (lost_places, comes_back, margins, read_back):
                self.check_refusals(function, good, bad)


class ReadBackTest(ProgramTest):

    def test_every_message_of_small_sets(self):
        for numbers, noisy in ((SMALL, False), ((8, 17, 9, 2, 3, 1, 4, 5), True), ((8, 89, 12, 1, 2, 3, 2, 11), True)):
            params, _ = pair_of(numbers)
            public_key, cipher_secret = cipher_keys(params, seed_of(0))
            lost = 0
            for byte in range(256):
                letter = encrypt(params, public_key, [byte], seed_of(20))
                noise = noise_row(params, seed_of(0), [byte], seed_of(20))
                found = decrypt(params, cipher_secret, letter)
                self.same(read_back(params, [byte], noise), found)
                self.assertIs(comes_back(params, [byte], noise), found == [byte])
                lost += found != [byte]
            self.assertEqual(lost > 0, noisy)

    def test_some_messages(self):
        for numbers in SMALL_SETS + MIDDLE + PUBLISHED:
            params, oracle = pair_of(numbers)
            for seed, message, randomness in some_cases(oracle, 4 if oracle.n <= 16 else 1):
                public_key, cipher_secret = cipher_keys(params, seed)
                found = decrypt(params, cipher_secret, encrypt(params, public_key, message, randomness))
                noise = noise_row(params, seed, message, randomness)
                self.same(read_back(params, message, noise), found)
                self.assertIs(comes_back(params, message, noise), found == message)
                if numbers in ALWAYS:
                    self.same(found, message)


def bent_at(paper, *places, step=1):
    """A copy of a paper with another number at one place of its lists."""
    bent = copy.deepcopy(list(paper))
    row = bent
    for place in places[:-1]:
        row = row[place]
    row[places[-1]] += step
    return tuple(bent)


class NoisePaperTest(ProgramTest):

    def check_paper(self, params, public_key, letter, message, paper, expected):
        before = repr((public_key, letter, message, paper))
        self.assertIs(is_noise_paper(params, public_key, letter, message, paper), expected)
        found = is_noise_paper(paper=paper, message=message, letter=letter, public_key=public_key, params=params)
        self.assertIs(found, expected)
        self.assertEqual(repr((public_key, letter, message, paper)), before)

    def test_papers_of_seeds(self):
        for numbers in SMALL_SETS + EXACT + MIDDLE + PUBLISHED:
            params, oracle = pair_of(numbers)
            for case in some_cases(oracle, 3 if oracle.n <= 16 else 1):
                seed, message, randomness = case
                paper = noise_paper(params, *case)
                if oracle.n <= 64:
                    self.same(paper, oracle.noise_paper(*case))
                public_key, letter = cipher_keys(params, seed)[0], letter_for(oracle, *case)
                self.check_paper(params, public_key, letter, message, paper, True)

    def test_other_vectors(self):
        # Any small vectors make a public key, a letter and a paper that fit together.
        for numbers in SMALL_SETS + MIDDLE:
            params, oracle = pair_of(numbers)
            for number in range(3):
                case = self.made_case(oracle, number)
                self.check_paper(params, *case, True)
                public_key, letter, message, paper = case
                cipher_secret = oracle.pack_spectra(paper[0])
                self.same(pack_secret(params, paper[0]), cipher_secret)
                self.same(decrypt(params, cipher_secret, letter), read_back(params, message, paper[7]))
                other = [message[0] ^ 1, *message[1:]]
                # The half is far from 0, so a paper does not fit two messages.
                self.check_paper(params, public_key, letter, other, paper, False)

    def made_case(self, oracle, number):
        n, k, sw, nw = oracle.n, oracle.k, oracle.sw, oracle.nw
        ends = [sw, -sw] * (n // 2)
        secret = [oracle.error_row(seed_of(number), place, sw) for place in range(k)]
        error = [ends if place == number % k else [0] * n for place in range(k)]
        y = [[-item for item in ends] for _ in range(k)]
        e1 = [[nw] * n if place % 2 else [-nw] * n for place in range(k)]
        e2 = [nw, 0, -nw, 0] * (n // 4)
        public_key = oracle.pack_spectra(oracle.public_vector(SEED, secret, error)) + SEED
        message = message_of(number, oracle.message_bytes)
        u, v = oracle.parts(public_key, message, (y, e1, e2))
        cu, cv = [oracle.press_errors(oracle.uw, poly) for poly in u], oracle.press_errors(oracle.vw, v)
        noise = oracle.noise_sum(secret, error, y, e1, e2, cu, cv)
        return (public_key, oracle.write(u, v), message, (secret, error, y, e1, e2, cu, cv, noise))

    def test_moved_between_parts(self):
        # What is taken from e1 and added to cu, or from e2 to cv, leaves all sums as they were.
        for numbers in (TWO_ROWS, (16, 97, 8, 4, 2, 3, 3, 5), (8, 89, 12, 1, 2, 3, 2, 11), SMALL, (8, 17, 2, 1, 1, 1, 1, 1)):
            params, oracle = pair_of(numbers)
            case = (SEED, message_of(3, oracle.message_bytes), OTHER_SEED)
            public_key, letter = oracle.keys(SEED)[0], letter_for(oracle, *case)
            paper = oracle.noise_paper(*case)
            for place, step in itertools.product(range(oracle.n), (1, -1)):
                moved = bent_at(bent_at(paper, 3, oracle.k - 1, place, step=step), 5, oracle.k - 1, place, step=-step)
                fits = abs(moved[3][-1][place]) <= oracle.nw
                fits = fits and abs(moved[5][-1][place]) <= bound_of(oracle.q, oracle.uw)
                self.check_paper(params, public_key, letter, case[1], moved, fits)
                moved = bent_at(bent_at(paper, 4, place, step=step), 6, place, step=-step)
                fits = abs(moved[4][place]) <= oracle.nw and abs(moved[6][place]) <= bound_of(oracle.q, oracle.vw)
                self.check_paper(params, public_key, letter, case[1], moved, fits)

    def test_beyond_the_bounds(self):
        # Papers that keep all sums but have one number beyond its bound, for each part that has one of its own.
        for numbers in (SMALL, TWO_ROWS, (8, 97, 33, 1, 1, 1, 3, 3)):
            oracle = pair_of(numbers)[1]
            for part in range(5):
                for step in (0, 1):
                    public_key, letter, message, paper = self.stretched_case(oracle, part, step)
                    self.check_paper(set_of(numbers), public_key, letter, message, paper, step == 0)

    def stretched_case(self, oracle, part, step):
        n, k = oracle.n, oracle.k
        small = [[[0] * n for _ in range(k)] for _ in range(4)] + [[0] * n]
        width = oracle.sw if part < 3 else oracle.nw
        row = small[part] if part == 4 else small[part][-1]
        row[n - 1] = width + step
        secret, error, y, e1, e2 = small
        public_key = oracle.pack_spectra(oracle.public_vector(SEED, secret, error)) + SEED
        u, v = oracle.parts(public_key, [8] * oracle.message_bytes, (y, e1, e2))
        cu, cv = [oracle.press_errors(oracle.uw, poly) for poly in u], oracle.press_errors(oracle.vw, v)
        noise = oracle.noise_sum(secret, error, y, e1, e2, cu, cv)
        paper = (secret, error, y, e1, e2, cu, cv, noise)
        return (public_key, oracle.write(u, v), [8] * oracle.message_bytes, paper)

    def test_bent_papers(self):
        for numbers in (SMALL, TWO_ROWS):
            params, oracle = pair_of(numbers)
            case = (SEED, [201], OTHER_SEED)
            public_key, letter = oracle.keys(SEED)[0], letter_for(oracle, *case)
            paper = oracle.noise_paper(*case)
            for bent in bent_papers(paper):
                self.check_paper(params, public_key, letter, [201], bent, False)

    def test_each_number(self):
        params, oracle = pair_of(TWO_ROWS)
        case = (SEED, [201], OTHER_SEED)
        public_key, letter = oracle.keys(SEED)[0], letter_for(oracle, *case)
        paper = oracle.noise_paper(*case)
        for part in range(8):
            for row in range(2) if part in (0, 1, 2, 3, 5) else (None,):
                for place, step in itertools.product(range(8), (1, -1, oracle.q, -oracle.q)):
                    places = (part, place) if row is None else (part, row, place)
                    bent = bent_at(paper, *places, step=step)
                    self.check_paper(params, public_key, letter, [201], bent, False)

    def test_each_equation_alone(self):
        # One part is replaced and the noise made anew, so that only the equation of this part is broken.
        for numbers in (SMALL, TWO_ROWS, (16, 97, 8, 4, 2, 3, 3, 5)):
            params, oracle = pair_of(numbers)
            case = (SEED, message_of(3, oracle.message_bytes), OTHER_SEED)
            public_key, letter = oracle.keys(SEED)[0], letter_for(oracle, *case)
            paper = oracle.noise_paper(*case)
            other = oracle.noise_paper(OTHER_SEED, case[1], SEED)
            for part in range(8):
                parts = [*paper[:part], other[part], *paper[part + 1:]]
                if part < 7:
                    parts[7] = oracle.noise_sum(*parts[:7])
                fits = parts[:7] == list(paper[:7]) and parts[7] == paper[7]
                self.check_paper(params, public_key, letter, case[1], tuple(parts), fits)
            for parts in ((*other[:2], *paper[2:7]), (*paper[:2], *other[2:7])):
                noise = oracle.noise_sum(*parts)
                self.check_paper(params, public_key, letter, case[1], (*parts, noise), False)

    def test_bent_arguments(self):
        params, oracle = pair_of(TWO_ROWS)
        case = (SEED, [201], OTHER_SEED)
        public_key, letter = oracle.keys(SEED)[0], letter_for(oracle, *case)
        paper = oracle.noise_paper(*case)
        for place in range(len(public_key)):
            bent = [*public_key[:place], public_key[place] ^ 1, *public_key[place + 1:]]
            self.check_paper(params, bent, letter, [201], paper, False)
        for place, bit in itertools.product(range(len(letter)), range(8)):
            bent = [*letter[:place], letter[place] ^ (1 << bit), *letter[place + 1:]]
            self.check_paper(params, public_key, bent, [201], paper, oracle.read(bent) == oracle.read(letter))
        for bit in range(8):
            self.check_paper(params, public_key, letter, [201 ^ (1 << bit)], paper, False)
        for case in ((OTHER_SEED, [201], OTHER_SEED), (SEED, [201], SEED)):
            self.check_paper(params, public_key, letter, [201], oracle.noise_paper(*case), False)

    def test_numbers_modulo_q(self):
        # A public key whose numbers are not below q stands for the same vector, and so do two codes of one residue.
        params, oracle = pair_of(SMALL)
        case = (SEED, [201], OTHER_SEED)
        public_key, letter = oracle.keys(SEED)[0], letter_for(oracle, *case)
        raised = self.raised_key(public_key)
        self.assertNotEqual(raised, public_key)
        self.check_paper(params, raised, letter, [201], oracle.noise_paper(*case), True)
        self.assertIs(is_key_paper(params, raised, oracle.noise_paper(*case)[:2]), True)

    def raised_key(self, public_key):
        """The same public key with 97 * 41 added to its first number."""
        number = public_key[0] + 256 * (public_key[1] % 16) + 97 * 41
        return [number % 256, number // 256 + public_key[1] // 16 * 16, *public_key[2:]]

    def test_any_papers(self):
        params, oracle = pair_of(SMALL)
        public_key, letter = oracle.keys(SEED)[0], letter_for(oracle, SEED, [1], SEED)
        for paper in ANY_PAPERS:
            self.check_paper(params, public_key, letter, [1], paper, False)
        for part in ANY_PAPERS:
            paper = list(oracle.noise_paper(SEED, [1], SEED))
            for place in range(8):
                self.check_paper(params, public_key, letter, [1], (*paper[:place], part, *paper[place + 1:]), False)

    def test_refusals(self):
        params, oracle = pair_of(TWO_ROWS)
        case = (SEED, [201], OTHER_SEED)
        good = {"params": params, "public_key": oracle.keys(SEED)[0], "letter": letter_for(oracle, *case)}
        good |= {"message": [201], "paper": oracle.noise_paper(*case)}
        bad = {"public_key": bad_bytes(oracle.public_bytes), "letter": bad_bytes(oracle.letter_bytes)}
        bad["message"] = BAD_BYTE
        self.check_refusals(is_noise_paper, good, bad)
        self.check_refusals(is_noise_paper, {**good, "paper": None}, bad)
        self.check_calls(is_noise_paper, good, True)
        self.check_calls(is_noise_paper, {**good, "paper": list(good["paper"])}, False)


class KeyPaperTest(ProgramTest):

    def check_paper(self, params, public_key, paper, expected):
        before = repr((public_key, paper))
        self.assertIs(is_key_paper(params, public_key, paper), expected)
        self.assertIs(is_key_paper(paper=paper, public_key=public_key, params=params), expected)
        self.assertEqual(repr((public_key, paper)), before)

    def test_papers_of_seeds(self):
        for numbers in SMALL_SETS + EXACT + MIDDLE + PUBLISHED:
            params, oracle = pair_of(numbers)
            for number in range(3 if oracle.n <= 16 else 1):
                seed = seed_of(number)
                paper = oracle.key_errors(oracle.seeds(seed)[1])
                self.same(key_paper(params, seed), paper)
                self.check_paper(params, cipher_keys(params, seed)[0], paper, True)

    def test_other_vectors(self):
        for numbers in SMALL_SETS + MIDDLE:
            params, oracle = pair_of(numbers)
            n, k, sw = oracle.n, oracle.k, oracle.sw
            rows = ([sw] * n, [-sw] * n, [0] * n, [0, sw] * (n // 2))
            for one, other in itertools.product(rows, repeat=2):
                paper = ([one] * k, [other] * k)
                public_key = oracle.pack_spectra(oracle.public_vector(OTHER_SEED, *paper)) + OTHER_SEED
                self.check_paper(params, public_key, paper, True)
                self.check_paper(params, public_key, bent_at(paper, 0, k - 1, n - 1, step=-1 if one[-1] > 0 else 1), False)
                self.check_paper(params, public_key, bent_at(paper, 1, 0, 0, step=-1 if other[0] > 0 else 1), False)

    def test_beyond_the_width(self):
        for numbers in SMALL_SETS:
            params, oracle = pair_of(numbers)
            n, k, sw = oracle.n, oracle.k, oracle.sw
            for part, sign, step in itertools.product((0, 1), (1, -1), (0, 1)):
                paper = ([[0] * n for _ in range(k)], [[0] * n for _ in range(k)])
                paper[part][k - 1][n - 1] = sign * (sw + step)
                public_key = oracle.pack_spectra(oracle.public_vector(SEED, *paper)) + SEED
                self.check_paper(params, public_key, paper, step == 0)

    def test_bent_papers(self):
        for numbers in (SMALL, TWO_ROWS, (16, 97, 8, 4, 2, 3, 3, 5)):
            params, oracle = pair_of(numbers)
            public_key = oracle.keys(SEED)[0]
            for bent in bent_papers(oracle.key_errors(oracle.seeds(SEED)[1])):
                self.check_paper(params, public_key, bent, False)

    def test_bent_public_keys(self):
        params, oracle = pair_of(TWO_ROWS)
        public_key, paper = oracle.keys(SEED)[0], oracle.key_errors(oracle.seeds(SEED)[1])
        for place in range(len(public_key)):
            bent = [*public_key[:place], public_key[place] ^ 128, *public_key[place + 1:]]
            fits = place < len(public_key) - 32 and oracle.unpack_spectra(bent[:-32]) == oracle.unpack_spectra(public_key[:-32])
            self.check_paper(params, bent, paper, fits)
        self.check_paper(params, oracle.keys(OTHER_SEED)[0], paper, False)

    def test_any_papers(self):
        params, oracle = pair_of(SMALL)
        public_key = oracle.keys(SEED)[0]
        secret, error = oracle.key_errors(oracle.seeds(SEED)[1])
        for paper in ANY_PAPERS:
            self.check_paper(params, public_key, paper, False)
            self.check_paper(params, public_key, (secret, paper), False)
            self.check_paper(params, public_key, (paper, error), False)
            self.check_paper(params, public_key, ([paper], error), False)

    def test_calls(self):
        params, oracle = pair_of(TWO_ROWS)
        paper = oracle.key_errors(oracle.seeds(SEED)[1])
        self.check_calls(key_paper, {"params": params, "key_seed": SEED}, paper)
        good = {"params": params, "public_key": oracle.keys(SEED)[0], "paper": paper}
        self.check_calls(is_key_paper, good, True)
        self.check_calls(is_key_paper, {**good, "paper": paper[::-1]}, False)

    def test_refusals(self):
        params, oracle = pair_of(TWO_ROWS)
        self.check_refusals(key_paper, {"params": params, "key_seed": SEED}, {"key_seed": BAD_SEED})
        good = {"params": params, "public_key": oracle.keys(SEED)[0]}
        good["paper"] = oracle.key_errors(oracle.seeds(SEED)[1])
        bad = {"public_key": bad_bytes(oracle.public_bytes)}
        self.check_refusals(is_key_paper, good, bad)
        self.check_refusals(is_key_paper, {**good, "paper": True}, bad)

    def test_key_bound_at_most_the_room(self):
        # The set is beyond its room, but this key is not.
        params, oracle = pair_of((8, 73, 10, 1, 1, 1, 7, 5))
        self.assertFalse(oracle.always())
        paper = ([[1, 0, 0, -1, 0, 0, 0, 0]], [[0, 0, 1, 0, 0, 0, 0, -1]])
        self.assertIs(key_always(params, *paper), True)
        public_key = oracle.pack_spectra(oracle.public_vector(SEED, *paper)) + SEED
        self.check_paper(params, public_key, paper, True)
        cipher_secret = pack_secret(params, paper[0])
        for byte in range(256):
            for randomness in (SEED, OTHER_SEED, seed_of(byte)):
                letter = encrypt(params, public_key, [byte], randomness)
                self.same(decrypt(params, cipher_secret, letter), [byte])

    def test_always_keys_in_noisy_sets(self):
        found = 0
        for numbers in SMALL_SETS:
            params, oracle = pair_of(numbers)
            for number in range(20):
                secret, error = key_paper(params, seed_of(number))
                if key_always(params, secret, error):
                    found += numbers in NOISY
                    public_key, cipher_secret = cipher_keys(params, seed_of(number))
                    for other in range(4):
                        message = message_of(other, oracle.message_bytes)
                        letter = encrypt(params, public_key, message, seed_of(other))
                        self.same(decrypt(params, cipher_secret, letter), message)


if __name__ == "__main__":
    unittest.main()
