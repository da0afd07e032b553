import itertools
import random
import unittest

from noisebound.polynomials import add, multiply_plain
from noisebound.rings import Ring
from noisebound.transform import from_spectrum, multiply_spectra, to_spectrum
from noisebound.vectors import (
    add_vectors, apply_plain, apply_spectra, dot_plain, dot_spectra, transpose, vector_from_spectra, vector_to_spectra,
)
from tests.tools import RINGS, SMALL_RINGS, ProgramTest, bad_list, bad_vector, product_by_sum, refusal, spoil

RING = Ring(8, 17, 2)
ONE = [1, 2, 0, 16, 9, 8, 0, 3]
TWO = [16, 0, 5, 8, 9, 1, 2, 15]
THREE = [0, 0, 0, 1, 0, 0, 0, 0]
BAD_POLY = bad_list(0, 16, ONE)
BAD_MEMBERS = BAD_POLY[:6] + BAD_POLY[6::5]
SHAPES = tuple(itertools.product((1, 2, 3, 4), repeat=2))


def vector_of(n, q, count, seed=0):
    chance = random.Random(n * q + count + 1000 * seed)
    return [[chance.choice((0, q - 1, chance.randrange(q))) for _ in range(n)] for _ in range(count)]


def matrix_by_chance(n, q, rows, columns):
    return [vector_of(n, q, columns, seed=row + 1) for row in range(rows)]


def dot_by_sum(n, q, first, second):
    products = [product_by_sum(n, q, one, other) for one, other in zip(first, second)]
    return [sum(items) % q for items in zip(*products)]


class SumTest(ProgramTest):

    def test_members(self):
        for n, q, root in RINGS:
            for count in (1, 2, 3, 4):
                first, second = vector_of(n, q, count), vector_of(n, q, count, seed=1)
                expected = [[(a + b) % q for a, b in zip(one, other)] for one, other in zip(first, second)]
                self.same(add_vectors(Ring(n, q, root), first, second), expected)
                self.same(add_vectors(Ring(n, q, root), second, first), expected)

    def test_calls(self):
        good = {"ring": RING, "first": [ONE, TWO], "second": [THREE, THREE]}
        expected = [[1, 2, 0, 0, 9, 8, 0, 3], [16, 0, 5, 9, 9, 1, 2, 15]]
        self.check_calls(add_vectors, good, expected)

    def test_one_vector_with_itself(self):
        vector = [ONE, ONE, ONE]
        answer = add_vectors(RING, vector, vector)
        self.same(answer, [[2 * item % 17 for item in ONE]] * 3)
        spoil(answer)
        self.same(vector, [ONE, ONE, ONE])


class SpectraTest(ProgramTest):

    def test_members(self):
        for n, q, root in RINGS:
            ring = Ring(n, q, root)
            for count in (1, 2, 3, 4):
                vector = vector_of(n, q, count)
                spectra = [to_spectrum(ring, poly) for poly in vector]
                self.same(vector_to_spectra(ring, vector), spectra)
                self.same(vector_from_spectra(ring, spectra), vector)
                self.same(vector_from_spectra(ring, vector), [from_spectrum(ring, poly) for poly in vector])

    def test_calls(self):
        vector = [ONE, TWO, THREE]
        spectra = [to_spectrum(RING, poly) for poly in vector]
        self.check_calls(vector_to_spectra, {"ring": RING, "vector": vector}, spectra)
        self.check_calls(vector_from_spectra, {"ring": RING, "vector": spectra}, vector)

    def test_refusals(self):
        for vector in ([ONE], [ONE, TWO], [ONE, TWO, THREE, ONE]):
            bad = {"vector": bad_vector("vector", vector, BAD_POLY)}
            for function in (vector_to_spectra, vector_from_spectra):
                self.check_refusals(function, {"ring": RING, "vector": vector}, bad)


class DotTest(ProgramTest):

    def test_plain(self):
        for n, q, root in SMALL_RINGS:
            for count in (1, 2, 3, 4):
                first, second = vector_of(n, q, count), vector_of(n, q, count, seed=1)
                expected = dot_by_sum(n, q, first, second)
                self.same(dot_plain(Ring(n, q, root), first, second), expected)
                self.same(dot_plain(Ring(n, q, root), second, first), expected)

    def test_plain_in_a_great_ring(self):
        first, second = vector_of(256, 3329, 2), vector_of(256, 3329, 2, seed=1)
        self.same(dot_plain(Ring(256, 3329, 17), first, second), dot_by_sum(256, 3329, first, second))

    def test_spectra(self):
        for n, q, root in RINGS:
            ring = Ring(n, q, root)
            for count in (1, 2, 3, 4):
                first, second = vector_of(n, q, count), vector_of(n, q, count, seed=1)
                expected = [0] * n
                for one, other in zip(first, second):
                    expected = add(ring, expected, multiply_spectra(ring, one, other))
                self.same(dot_spectra(ring, first, second), expected)

    def test_spectra_against_plain(self):
        for n, q, root in RINGS:
            ring = Ring(n, q, root)
            for count in (1, 4) if n <= 64 else (2,):
                first, second = vector_of(n, q, count), vector_of(n, q, count, seed=1)
                spectrum = dot_spectra(ring, vector_to_spectra(ring, first), vector_to_spectra(ring, second))
                self.same(from_spectrum(ring, spectrum), dot_plain(ring, first, second))

    def test_calls(self):
        good = {"ring": RING, "first": [ONE, TWO], "second": [TWO, THREE]}
        self.check_calls(dot_plain, good, dot_by_sum(8, 17, [ONE, TWO], [TWO, THREE]))
        product = [multiply_spectra(RING, ONE, TWO), multiply_spectra(RING, TWO, THREE)]
        self.check_calls(dot_spectra, good, [sum(items) % 17 for items in zip(*product)])


class TwoVectorsTest(ProgramTest):

    def test_refusals(self):
        for function in (add_vectors, dot_plain, dot_spectra):
            for first, second in (([ONE], [TWO]), ([ONE, TWO, THREE], [TWO, ONE, ONE])):
                bad = {
                    "first": bad_vector("first", first, BAD_MEMBERS),
                    "second": bad_vector("second", second, BAD_MEMBERS),
                }
                self.check_refusals(function, {"ring": RING, "first": first, "second": second}, bad)

    def test_numbers_of_members(self):
        for function in (add_vectors, dot_plain, dot_spectra):
            for one, other in SHAPES:
                told = refusal(function, RING, [ONE] * one, [TWO] * other)
                if one == other:
                    self.same(told[0], "answer")
                else:
                    self.same(told, ("BadLength", one, other))

    def test_order(self):
        for function in (add_vectors, dot_plain, dot_spectra):
            self.same(refusal(function, RING, [ONE], []), ("OutOfRange", "second"))
            self.same(refusal(function, RING, [ONE], [TWO] * 5), ("OutOfRange", "second"))
            self.same(refusal(function, RING, [], [TWO] * 5), ("OutOfRange", "first"))
            self.same(refusal(function, RING, [ONE], [TWO, [17] + [0] * 7]), ("BadItem", 0))
            self.same(refusal(function, RING, [ONE], [TWO, [17]]), ("BadLength", 8, 1))
            self.same(refusal(function, RING, [ONE, [0] * 9], [TWO]), ("BadLength", 8, 9))
            self.same(refusal(function, RING, [ONE, TWO], [TWO]), ("BadLength", 2, 1))


class TransposeTest(ProgramTest):

    def test_members(self):
        for n, q, root in RINGS[::4]:
            for rows, columns in SHAPES:
                matrix = matrix_by_chance(n, q, rows, columns)
                turned = transpose(Ring(n, q, root), matrix)
                self.same(turned, [[matrix[i][j] for i in range(rows)] for j in range(columns)])
                self.same(transpose(Ring(n, q, root), turned), matrix)

    def test_copies(self):
        matrix = [[ONE, TWO], [THREE, ONE]]
        before = repr(matrix)
        spoil(transpose(RING, matrix))
        self.same(repr(matrix), before)

    def test_calls(self):
        self.check_calls(transpose, {"ring": RING, "matrix": [[ONE, TWO, THREE]]}, [[ONE], [TWO], [THREE]])
        self.check_calls(transpose, {"ring": RING, "matrix": [[ONE, TWO]] * 2}, [[ONE, ONE], [TWO, TWO]])


def bad_matrices(rows, columns):
    """Pairs (wrong matrix, refusal) near a matrix of this shape."""
    good = [[ONE] * columns for _ in range(rows)]
    told = ("OutOfRange", "matrix")
    pairs = [([], told), ([[]], told), ([[], [ONE]], told), ([[ONE]] * 5, told), ([[ONE] * 5], told)]
    pairs += [([[ONE] * 5] * 2, told), ([[[17]]] * 5, told), ([[[17]] * 5], told)]
    for row, column in itertools.product(range(rows), range(columns)):
        for poly, expected in BAD_MEMBERS:
            changed = [list(members) for members in good]
            changed[row][column] = poly
            pairs.append((changed, expected))
    for row in range(1, rows):
        for count in {0, 1, columns - 1, columns + 1, 5} - {columns}:
            changed = [list(members) for members in good]
            changed[row] = [[None]] * count
            pairs.append((changed, ("BadLength", columns, count)))
    return pairs


class ApplyTest(ProgramTest):

    def test_plain(self):
        for n, q, root in SMALL_RINGS[::2]:
            for rows, columns in SHAPES[::3] if n > 8 else SHAPES:
                matrix, vector = matrix_by_chance(n, q, rows, columns), vector_of(n, q, columns)
                expected = [dot_by_sum(n, q, row, vector) for row in matrix]
                self.same(apply_plain(Ring(n, q, root), matrix, vector), expected)

    def test_spectra(self):
        for n, q, root in RINGS:
            ring = Ring(n, q, root)
            for rows, columns in SHAPES:
                matrix, vector = matrix_by_chance(n, q, rows, columns), vector_of(n, q, columns)
                expected = [dot_spectra(ring, row, vector) for row in matrix]
                self.same(apply_spectra(ring, matrix, vector), expected)

    def test_spectra_against_plain(self):
        for n, q, root in (*SMALL_RINGS, (256, 3329, 17)):
            ring = Ring(n, q, root)
            for rows, columns in ((1, 1), (2, 3), (4, 1)) if n < 256 else ((2, 1),):
                matrix, vector = matrix_by_chance(n, q, rows, columns), vector_of(n, q, columns)
                spectra = [vector_to_spectra(ring, row) for row in matrix]
                found = apply_spectra(ring, spectra, vector_to_spectra(ring, vector))
                self.same(vector_from_spectra(ring, found), apply_plain(ring, matrix, vector))

    def test_transposed(self):
        for n, q, root in RINGS[::3]:
            ring = Ring(n, q, root)
            for rows, columns in SHAPES if n == 8 else ((2, 3), (4, 4)):
                matrix = matrix_by_chance(n, q, rows, columns)
                x, y = vector_of(n, q, columns, seed=8), vector_of(n, q, rows, seed=9)
                one = dot_spectra(ring, apply_spectra(ring, matrix, x), y)
                self.same(dot_spectra(ring, x, apply_spectra(ring, transpose(ring, matrix), y)), one)
                if n <= 32:
                    one = dot_plain(ring, apply_plain(ring, matrix, x), y)
                    self.same(dot_plain(ring, x, apply_plain(ring, transpose(ring, matrix), y)), one)

    def test_calls(self):
        good = {"ring": RING, "matrix": [[ONE, TWO]], "vector": [TWO, THREE]}
        self.check_calls(apply_plain, good, [dot_by_sum(8, 17, [ONE, TWO], [TWO, THREE])])
        self.check_calls(apply_spectra, good, [dot_spectra(RING, [ONE, TWO], [TWO, THREE])])
        good = {"ring": RING, "matrix": [[ONE]] * 3, "vector": [TWO]}
        self.check_calls(apply_plain, good, [multiply_plain(RING, ONE, TWO)] * 3)


class MatrixRefusalTest(ProgramTest):

    def test_matrices(self):
        for rows, columns in ((1, 1), (2, 2), (3, 1), (2, 4), (4, 3)):
            good = {"ring": RING, "matrix": [[ONE] * columns for _ in range(rows)]}
            self.check_refusals(transpose, good, {"matrix": bad_matrices(rows, columns)})

    def test_matrices_and_vectors(self):
        for function in (apply_plain, apply_spectra):
            good = {"ring": RING, "matrix": [[ONE, TWO], [TWO, ONE]], "vector": [TWO, TWO]}
            bad = {"matrix": bad_matrices(2, 2), "vector": bad_vector("vector", [TWO, TWO], BAD_MEMBERS[::4])}
            self.check_refusals(function, good, bad)

    def test_columns_and_members(self):
        for function in (apply_plain, apply_spectra):
            for rows, columns, members in itertools.product((1, 2, 3, 4), repeat=3):
                told = refusal(function, RING, [[ONE] * columns] * rows, [TWO] * members)
                if columns == members:
                    self.same(told[0], "answer")
                else:
                    self.same(told, ("BadLength", columns, members))
            self.same(refusal(function, RING, [[ONE]], [TWO, [17] * 8]), ("BadItem", 0))
            self.same(refusal(function, RING, [[ONE]], [TWO] * 5), ("OutOfRange", "vector"))
            self.same(refusal(function, RING, [[ONE], []], [TWO, [17] * 8]), ("BadLength", 1, 0))

    def test_rows_are_checked_whole(self):
        wrong = [17] + [0] * 7
        self.same(refusal(transpose, RING, [[ONE, wrong], [ONE]]), ("BadItem", 0))
        self.same(refusal(transpose, RING, [[ONE, TWO], [wrong]]), ("BadLength", 2, 1))
        self.same(refusal(transpose, RING, [[ONE, [0] * 7], []]), ("BadLength", 8, 7))
        self.same(refusal(transpose, RING, [[ONE, TWO], [ONE, TWO], [], [wrong, wrong]]), ("BadLength", 2, 0))
        self.same(refusal(transpose, RING, [[ONE], [wrong], []]), ("BadItem", 0))


if __name__ == "__main__":
    unittest.main()
