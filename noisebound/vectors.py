"""Vectors and matrices of polynomials or of spectra."""

from noisebound.checks import check_between, check_length, check_polynomial, check_vector
from noisebound.polynomials import add, constant, multiply_plain
from noisebound.transform import from_spectrum, multiply_spectra, to_spectrum


def check_matrix(ring, matrix):
    """Refuse what is not 1 to 4 vectors with the same number of members."""
    check_between("matrix", len(matrix), 1, 4)
    columns = len(matrix[0])
    check_between("matrix", columns, 1, 4)
    for row in matrix:
        check_length(row, columns)
        for poly in row:
            check_polynomial(ring, poly)


def check_two_vectors(ring, first, second):
    """Refuse what is not two vectors with the same number of members."""
    check_vector("first", ring, first)
    check_vector("second", ring, second)
    check_length(second, len(first))


def check_application(ring, matrix, vector):
    """Refuse what is not a matrix and a vector with one member for each column."""
    check_matrix(ring, matrix)
    check_vector("vector", ring, vector)
    check_length(vector, len(matrix[0]))


def add_vectors(ring, first, second):
    """Return the sums of the members."""
    check_two_vectors(ring, first, second)
    return [add(ring, one, other) for one, other in zip(first, second)]


def vector_to_spectra(ring, vector):
    """Return the spectra of the members."""
    check_vector("vector", ring, vector)
    return [to_spectrum(ring, poly) for poly in vector]


def vector_from_spectra(ring, vector):
    """Return the polynomials that have these spectra."""
    check_vector("vector", ring, vector)
    return [from_spectrum(ring, spectrum) for spectrum in vector]


def dot_plain(ring, first, second):
    """Return the dot product of two vectors of polynomials."""
    check_two_vectors(ring, first, second)
    return sum_of(ring, [multiply_plain(ring, one, other) for one, other in zip(first, second)])


def dot_spectra(ring, first, second):
    """Return the dot product of two vectors of spectra."""
    check_two_vectors(ring, first, second)
    return sum_of(ring, [multiply_spectra(ring, one, other) for one, other in zip(first, second)])


def sum_of(ring, polys):
    """Return the sum of some polynomials or of some spectra."""
    total = constant(ring, 0)
    for poly in polys:
        total = add(ring, total, poly)
    return total


def transpose(ring, matrix):
    """Return the matrix that has the columns as rows."""
    check_matrix(ring, matrix)
    return [[list(row[place]) for row in matrix] for place in range(len(matrix[0]))]


def apply_plain(ring, matrix, vector):
    """Return the dot products of the rows with a vector of polynomials."""
    check_application(ring, matrix, vector)
    return [dot_plain(ring, row, vector) for row in matrix]


def apply_spectra(ring, matrix, vector):
    """Return the dot products of the rows with a vector of spectra."""
    check_application(ring, matrix, vector)
    return [dot_spectra(ring, row, vector) for row in matrix]
