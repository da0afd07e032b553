import hashlib
import random
import unittest

from noisebound.hashes import stretch_128, stretch_256
from noisebound.octets import bits_of
from noisebound.rings import Ring
from noisebound.sampling import (
    binomial_from_bytes, error_row, error_vector, filled_report, is_uniform_report, matrix_of, piece_limit, pieces,
    uniform_from_bytes, uniform_polynomial, uniform_report,
)
from tests.tools import (
    ANY_PAPERS, BAD_BYTES, RINGS, ProgramTest, bad_items, bad_list, bent_papers, no_choice, out_of_range, refusal,
)

DEGREES = (8, 16, 32, 64, 128, 256)
RING = Ring(8, 17, 2)
GREAT_RING = Ring(256, 3329, 17)
# A third to a half of all pieces are skipped in these.
WASTING_RINGS = ((64, 2113, 101), (128, 2689, 31), (8, 2081, 868), (16, 2129, 105))
SEED = list(range(100, 132))
# With column 0 and row 0, 504 bytes give too few values for the great ring.
SHORT_SEEDS = [[first] * 31 + [0] for first in (19, 46, 106, 216)]
BAD_SEED = bad_list(0, 255, SEED)


def bytes_of_pieces(numbers):
    """Three bytes for each two pieces, by writing their bits as one text."""
    bits = "".join(f"{number:012b}"[::-1] for number in numbers)
    return [int(bits[start:start + 8][::-1], 2) for start in range(0, len(bits), 8)]


def pieces_of_bytes(data):
    bits = "".join(f"{byte:08b}"[::-1] for byte in data[:len(data) // 3 * 3])
    return [int(bits[start:start + 12][::-1], 2) for start in range(0, len(bits), 12)]


def report_by_the_rule(n, q, numbers):
    """The report of a list of pieces, written as the document tells it."""
    limit = 4096 - 4096 % q
    good = [place for place, number in enumerate(numbers) if number < limit][:n]
    used = good[-1] + 1 if len(good) == n else len(numbers)
    skipped = [place for place in range(used) if place not in good]
    return ([numbers[place] % q for place in good], skipped, used)


def filled_by_the_rule(n, q, numbers):
    values, skipped, used = report_by_the_rule(n, q, numbers)
    filled = n - len(values)
    return (values + [0] * filled, skipped, used, filled)


def stretched_report(n, q, seed, column, row):
    """The filled report of a seed, a column and a row, with another implementation of the stretching."""
    data = list(hashlib.shake_128(bytes([*seed, column, row])).digest(2688))
    return filled_by_the_rule(n, q, pieces_of_bytes(data))


def binomials_by_the_rule(n, width, data):
    bits = "".join(f"{byte:08b}"[::-1] for byte in data)
    numbers = []
    for i in range(n):
        start = 2 * width * i
        plus, minus = bits[start:start + width], bits[start + width:start + 2 * width]
        numbers.append(plus.count("1") - minus.count("1"))
    return numbers


class PiecesTest(ProgramTest):

    def test_example(self):
        self.same(pieces([18, 52, 86, 7]), [1042, 1379])

    def test_short_lists(self):
        data = [18, 52, 86, 255, 15, 240]
        expected = [1042, 1379, 4095, 3840]
        for count in range(7):
            self.same(pieces(data[:count]), expected[:count // 3 * 2])

    def test_long_lists(self):
        chance = random.Random(43)
        for count in (2688, 2689, 2690, 9999, 20000):
            data = [chance.randrange(256) for _ in range(count)]
            self.same(pieces(data), pieces_of_bytes(data))
        self.same(pieces([255] * 9), [4095] * 6)
        self.same(pieces([0] * 8), [0] * 4)

    def test_each_byte(self):
        for byte in range(256):
            self.same(pieces([byte, 0, 0]), [byte, 0])
            self.same(pieces([0, byte, 0]), [256 * (byte % 16), byte // 16])
            self.same(pieces([0, 0, byte]), [0, 16 * byte])

    def test_calls(self):
        self.check_calls(pieces, {"data": [1, 2, 3]}, [513, 48])
        self.check_calls(pieces, {"data": [1, 2]}, [])

    def test_refusals(self):
        bad = BAD_BYTES + [([0, 0, 0, 256], ("BadItem", 3)), ([0, 0, 0, 0, None], ("BadItem", 4))]
        self.check_refusals(pieces, {"data": [1, 2, 3]}, {"data": bad})


class PieceLimitTest(ProgramTest):

    def test_limits(self):
        for q in range(2, 4096):
            limit = piece_limit(q)
            self.same(limit, max(number for number in range(4097 - q, 4097) if number % q == 0))
        self.same([piece_limit(q) for q in (2, 17, 2048, 2049, 3329, 4095)], [4096, 4080, 4096, 2049, 3329, 4095])

    def test_calls(self):
        self.check_calls(piece_limit, {"q": 17}, 4080)

    def test_refusals(self):
        self.check_refusals(piece_limit, {"q": 2}, {"q": out_of_range("q", 2, 4095)})
        self.check_refusals(piece_limit, {"q": 4095}, {"q": out_of_range("q", 2, 4095)})


class UniformTest(ProgramTest):

    def check_reports(self, triple, numbers, tail=()):
        n, q, _ = triple
        ring = Ring(*triple)
        data = bytes_of_pieces(numbers) + list(tail)
        report = report_by_the_rule(n, q, numbers)
        self.same(uniform_from_bytes(ring, data), report)
        self.same(filled_report(ring, data), filled_by_the_rule(n, q, numbers))
        self.assertIs(is_uniform_report(ring, data, report), True)

    def test_examples(self):
        self.same(uniform_from_bytes(RING, [255, 255, 255, 18, 0, 0]), ([1, 0], [0, 1], 4))
        self.same(filled_report(RING, [255, 255, 255, 18, 0, 0]), ([1, 0, 0, 0, 0, 0, 0, 0], [0, 1], 4, 6))

    def test_pieces_at_the_limit(self):
        for n, q, root in (*RINGS, *WASTING_RINGS):
            limit = 4096 - 4096 % q
            numbers = [limit - 1, limit % 4096, min(limit + 1, 4095), 0, q - 1, q % 4096, 4095, limit - 2]
            self.check_reports((n, q, root), numbers)
            self.same(uniform_from_bytes(Ring(n, q, root), bytes_of_pieces([limit - 1, limit])), ([q - 1], [1], 2))

    def test_lists_of_every_length(self):
        for n, q, root in ((8, 17, 2), (16, 4049, 276), (8, 2081, 868)):
            chance = random.Random(n)
            numbers = [chance.choice((0, 4095, q, chance.randrange(4096))) for _ in range(60)]
            for count in range(0, 60, 2):
                for tail in ((), (7,), (255, 0)):
                    self.check_reports((n, q, root), numbers[:count], tail)

    def test_the_last_value(self):
        for n, q, root in (*RINGS, *WASTING_RINGS):
            ring = Ring(n, q, root)
            for short in (n - 2, n, n + 2):
                numbers = [place % q for place in range(short)]
                self.check_reports((n, q, root), numbers)
            full = bytes_of_pieces([1] * n)
            self.same(uniform_from_bytes(ring, full), ([1] * n, [], n))
            self.same(uniform_from_bytes(ring, full + [255] * 6), ([1] * n, [], n))
            self.same(uniform_from_bytes(ring, full + [3, 3, 3]), ([1] * n, [], n))
            # The n-th value is the first piece of a group, so the second one is not read.
            odd = bytes_of_pieces([4095] + [1] * n + [2])
            self.same(uniform_from_bytes(ring, odd), ([1] * n, [0], n + 1))
            odd = bytes_of_pieces([4095] + [1] * n + [4095])
            self.same(filled_report(ring, odd), ([1] * n, [0], n + 1, 0))
            late = bytes_of_pieces([1] * (n - 1) + [4095] * 5 + [2, 3])
            self.same(filled_report(ring, late), ([1] * (n - 1) + [2], list(range(n - 1, n + 4)), n + 5, 0))

    def test_no_value(self):
        for n, q, root in RINGS:
            ring = Ring(n, q, root)
            for data in ([], [1], [1, 2]):
                self.same(uniform_from_bytes(ring, data), ([], [], 0))
                self.same(filled_report(ring, data), ([0] * n, [], 0, n))
            self.same(uniform_from_bytes(ring, [255] * 3000), ([], list(range(2000)), 2000))
            self.same(filled_report(ring, [255] * 3000), ([0] * n, list(range(2000)), 2000, n))

    def test_long_lists(self):
        for n, q, root in (*RINGS, *WASTING_RINGS):
            chance = random.Random(q)
            for count in (n, 2 * n, 4000):
                self.check_reports((n, q, root), [chance.randrange(4096) for _ in range(count)])

    def test_calls(self):
        data = bytes_of_pieces([18, 4095, 34, 4079, 4080, 3])
        self.check_calls(uniform_from_bytes, {"ring": RING, "data": data}, ([1, 0, 16, 3], [1, 4], 6))
        self.check_calls(filled_report, {"ring": RING, "data": data}, ([1, 0, 16, 3, 0, 0, 0, 0], [1, 4], 6, 4))

    def test_refusals(self):
        full = bytes_of_pieces([1] * 8)
        bad = BAD_BYTES + bad_items(0, 255, full)
        bad += [(full + [256], ("BadItem", 12)), (full + [0] * 300 + [None], ("BadItem", 312))]
        bad += [(full + [0, 0, True, 0], ("BadItem", 14))]
        for function in (uniform_from_bytes, filled_report):
            self.check_refusals(function, {"ring": RING, "data": full}, {"data": bad})
        self.check_refusals(is_uniform_report, {"ring": RING, "data": full, "paper": None}, {"data": bad})


class UniformJudgeTest(ProgramTest):

    def test_right_reports(self):
        chance = random.Random(6)
        for n, q, root in RINGS:
            for count in (0, 1, 3, 2 * n, 4 * n):
                data = [chance.randrange(256) for _ in range(count)]
                report = report_by_the_rule(n, q, pieces_of_bytes(data))
                self.assertIs(is_uniform_report(Ring(n, q, root), data, report), True)

    def test_bent_reports(self):
        lists = ([], [255] * 6, [1, 2, 3, 255, 255, 255, 1, 0, 0], bytes_of_pieces([1, 4095, 0] * 6))
        for data in lists:
            right = uniform_from_bytes(RING, data)
            papers = list(bent_papers(right))
            self.assertGreater(len(papers), 10)
            for paper in papers:
                before = repr(paper)
                self.assertIs(is_uniform_report(RING, data, paper), False)
                self.same(repr(paper), before)
            self.assertIs(is_uniform_report(RING, data, right), True)

    def test_other_kinds(self):
        data = bytes_of_pieces([1, 4095])
        self.assertIs(is_uniform_report(RING, data, ([1], [1], 2)), True)
        wrong = [([True], [1], 2), ([1], [True], 2), ([1], [1], 2.0), [[1], [1], 2], ((1,), [1], 2), ([1], (1,), 2)]
        wrong += [([1], [1]), ([1], [1], 2, 7), ([1.0], [1], 2), (["1"], [1], 2), ([None], [1], 2), ([[1]], [1], 2)]
        wrong += [([1, 0, 0, 0, 0, 0, 0, 0], [1], 2), ([18], [1], 2), ([1], [], 2), ([1], [1], 1), ([1], [1], True)]
        for paper in wrong:
            self.assertIs(is_uniform_report(RING, data, paper), False)
        data = bytes_of_pieces([0, 4095])
        self.assertIs(is_uniform_report(RING, data, ([False], [1], 2)), False)
        self.assertIs(is_uniform_report(RING, [], ([], [], 0)), True)
        for paper in (([], [], False), ([], [], None), ((), [], 0), ([], (), 0), ([], [], ""), ([], [], [])):
            self.assertIs(is_uniform_report(RING, [], paper), False)

    def test_any_papers(self):
        for data in ([5, 6, 7], [255] * 30):
            for paper in ANY_PAPERS:
                self.assertIs(is_uniform_report(RING, data, paper), False)
                self.assertIs(is_uniform_report(data=data, paper=paper, ring=RING), False)

    def test_calls(self):
        good = {"ring": RING, "data": [1, 0, 0], "paper": ([1, 0], [], 2)}
        self.check_calls(is_uniform_report, good, True)
        self.check_calls(is_uniform_report, {**good, "paper": ([1, 0], [], 3)}, False)


class UniformPolynomialTest(ProgramTest):

    def test_by_the_rule(self):
        for n, q, root in (*RINGS, *WASTING_RINGS):
            ring = Ring(n, q, root)
            for seed, column, row in ((SEED, 0, 1), ([0] * 32, 3, 2), ([255] * 32, 255, 0)):
                expected = stretched_report(n, q, seed, column, row)
                self.same(uniform_report(ring, seed, column, row), expected)
                self.same(uniform_polynomial(ring, seed, column, row), expected[0])

    def test_by_stretch_128(self):
        for column, row in ((0, 0), (0, 255), (255, 0), (255, 255), (1, 0), (0, 1), (7, 200)):
            data = stretch_128(SEED + [column, row], 2688)
            self.same(uniform_report(GREAT_RING, SEED, column, row), filled_report(GREAT_RING, data))
            self.same(uniform_polynomial(RING, SEED, column, row), filled_report(RING, data)[0])

    def test_columns_and_rows_are_told_apart(self):
        polys = [uniform_polynomial(RING, SEED, column, row) for column in range(4) for row in range(4)]
        self.assertEqual(len({tuple(poly) for poly in polys}), 16)

    def test_more_than_504_bytes(self):
        for seed in SHORT_SEEDS:
            expected = stretched_report(256, 3329, seed, 0, 0)
            self.assertGreater(expected[2], 336)
            self.same(uniform_report(GREAT_RING, seed, 0, 0), expected)
            self.same(uniform_polynomial(GREAT_RING, seed, 0, 0), expected[0])

    def test_each_byte_of_the_seed(self):
        for place in range(32):
            seed = list(SEED)
            seed[place] = seed[place] ^ 128
            self.same(uniform_report(RING, seed, 1, 2), stretched_report(8, 17, seed, 1, 2))

    def test_calls(self):
        good = {"ring": RING, "seed": SEED, "column": 1, "row": 2}
        expected = stretched_report(8, 17, SEED, 1, 2)
        self.check_calls(uniform_report, good, expected)
        self.check_calls(uniform_polynomial, good, expected[0])

    def test_refusals(self):
        bad = {"seed": BAD_SEED, "column": out_of_range("column", 0, 255), "row": out_of_range("row", 0, 255)}
        for function in (uniform_report, uniform_polynomial):
            self.check_refusals(function, {"ring": RING, "seed": SEED, "column": 0, "row": 255}, bad)


class MatrixTest(ProgramTest):

    def test_entries(self):
        for n, q, root in RINGS:
            ring = Ring(n, q, root)
            for k in (1, 2, 3, 4):
                entries = [[stretched_report(n, q, SEED, j, i)[0] for j in range(k)] for i in range(k)]
                self.same(matrix_of(ring, k, SEED), entries)
        self.same(matrix_of(RING, 3, SEED)[2][1], uniform_polynomial(RING, SEED, 1, 2))

    def test_calls(self):
        expected = [[stretched_report(8, 17, SEED, j, i)[0] for j in range(2)] for i in range(2)]
        self.check_calls(matrix_of, {"ring": RING, "k": 2, "seed": SEED}, expected)

    def test_refusals(self):
        bad = {"k": out_of_range("k", 1, 4), "seed": BAD_SEED}
        self.check_refusals(matrix_of, {"ring": RING, "k": 1, "seed": SEED}, bad)
        self.check_refusals(matrix_of, {"ring": RING, "k": 4, "seed": SEED}, bad)


class BinomialTest(ProgramTest):

    def test_example(self):
        self.same(binomial_from_bytes(8, 1, [25, 0]), [1, -1, 1, 0, 0, 0, 0, 0])

    def test_by_the_rule(self):
        chance = random.Random(46)
        for n in DEGREES:
            for width in (1, 2, 3):
                for _ in range(10):
                    data = [chance.choice((0, 255, chance.randrange(256))) for _ in range(n * width // 4)]
                    numbers = binomial_from_bytes(n, width, data)
                    self.same(numbers, binomials_by_the_rule(n, width, data))
                    self.assertLessEqual(max(abs(number) for number in numbers), width)

    def test_all_bytes_alike(self):
        for n in DEGREES:
            for width in (1, 2, 3):
                for byte in (0, 255):
                    self.same(binomial_from_bytes(n, width, [byte] * (n * width // 4)), [0] * n)

    def test_greatest_and_least(self):
        for n in DEGREES:
            for width, high in ((1, [85] * 2), (2, [51] * 4), (3, [199, 113, 28] * 2)):
                data = high * (n // 8)
                self.same(binomial_from_bytes(n, width, data), [width] * n)
                self.same(binomial_from_bytes(n, width, [255 - byte for byte in data]), [-width] * n)

    def test_one_bit(self):
        for n in (8, 32):
            for width in (1, 2, 3):
                count = n * width // 4
                for place in range(8 * count):
                    data = [0] * count
                    data[place // 8] = 1 << (place % 8)
                    expected = [0] * n
                    expected[place // (2 * width)] = 1 if place % (2 * width) < width else -1
                    self.same(binomial_from_bytes(n, width, data), expected)
                    flipped = [255 - byte for byte in data]
                    self.same(binomial_from_bytes(n, width, flipped), [-number for number in expected])

    def test_all_bits_changed(self):
        chance = random.Random(9)
        for n in DEGREES:
            for width in (1, 2, 3):
                data = [chance.randrange(256) for _ in range(n * width // 4)]
                numbers = binomial_from_bytes(n, width, data)
                flipped = binomial_from_bytes(n, width, [byte ^ 255 for byte in data])
                self.same(flipped, [-number for number in numbers])

    def test_sums_of_bits(self):
        data = [1, 2, 4, 8, 16, 77]
        bits = bits_of(data)
        expected = [sum(bits[6 * i:6 * i + 3]) - sum(bits[6 * i + 3:6 * i + 6]) for i in range(8)]
        self.same(binomial_from_bytes(8, 3, data), expected)

    def test_calls(self):
        self.check_calls(binomial_from_bytes, {"n": 8, "width": 1, "data": [25, 0]}, [1, -1, 1, 0, 0, 0, 0, 0])

    def test_refusals(self):
        for n, width in ((8, 1), (8, 3), (256, 2)):
            data = [170] * (n * width // 4)
            bad = {
                "n": no_choice("n", DEGREES), "width": out_of_range("width", 1, 3), "data": bad_list(0, 255, data),
            }
            self.check_refusals(binomial_from_bytes, {"n": n, "width": width, "data": data}, bad)


class ErrorTest(ProgramTest):

    def row_by_hashlib(self, n, width, seed, counter):
        data = list(hashlib.shake_256(bytes([*seed, counter])).digest(n * width // 4))
        return binomials_by_the_rule(n, width, data)

    def test_rows(self):
        for n in DEGREES:
            for width in (1, 2, 3):
                for seed in (SEED, [0] * 32, [255] * 32):
                    for counter in (0, 1, 4, 200, 255):
                        found = error_row(n, width, seed, counter)
                        self.same(found, self.row_by_hashlib(n, width, seed, counter))
                        data = stretch_256(seed + [counter], n * width // 4)
                        self.same(found, binomial_from_bytes(n, width, data))

    def test_vectors(self):
        for n in DEGREES:
            for width in (1, 2, 3):
                for counter in (0, 3, 200):
                    for count in (1, 2, 3, 4):
                        expected = [self.row_by_hashlib(n, width, SEED, counter + place) for place in range(count)]
                        self.same(error_vector(n, width, SEED, counter, count), expected)

    def test_calls(self):
        good = {"n": 16, "width": 2, "seed": SEED, "counter": 255}
        self.check_calls(error_row, good, self.row_by_hashlib(16, 2, SEED, 255))
        good = {"n": 8, "width": 3, "seed": SEED, "counter": 200, "count": 2}
        expected = [self.row_by_hashlib(8, 3, SEED, counter) for counter in (200, 201)]
        self.check_calls(error_vector, good, expected)

    def test_refusals(self):
        bad = {"n": no_choice("n", DEGREES), "width": out_of_range("width", 1, 3), "seed": BAD_SEED}
        good = {"n": 8, "width": 3, "seed": SEED, "counter": 255}
        self.check_refusals(error_row, good, {**bad, "counter": out_of_range("counter", 0, 255)})
        good = {"n": 256, "width": 1, "seed": SEED, "counter": 200, "count": 4}
        bad = {**bad, "counter": out_of_range("counter", 0, 200), "count": out_of_range("count", 1, 4)}
        self.check_refusals(error_vector, good, bad)
        self.same(refusal(error_vector, 8, 1, SEED, 201, 1), ("OutOfRange", "counter"))
        self.same(refusal(error_vector, 8, 1, SEED, 200, 0), ("OutOfRange", "count"))
        self.same(refusal(error_vector, 8, 1, SEED[1:], 255, 0), ("BadLength", 32, 31))


if __name__ == "__main__":
    unittest.main()
