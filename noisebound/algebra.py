"""Elements: polynomials that know their ring and take the signs of arithmetic."""

from noisebound.checks import check_between, check_polynomial, is_number
from noisebound.errors import DifferentRings
from noisebound.polynomials import add, centre, constant, negate, row_size, row_weight, scale, subtract
from noisebound.transform import from_spectrum, multiply_fast, multiply_spectra, to_spectrum

GREATEST_EXPONENT = 64


def check_same_ring(first, second):
    """Refuse two unequal rings."""
    if first != second:
        raise DifferentRings()


class Element:
    """A polynomial together with its ring; it never changes."""

    def __init__(self, ring, poly):
        check_polynomial(ring, poly)
        self.ring = ring
        self._poly = list(poly)

    def coefficients(self):
        """Return the polynomial."""
        return list(self._poly)

    @property
    def size(self):
        """The largest absolute value of a centred coefficient."""
        return row_size(centre(self.ring, self._poly))

    @property
    def weight(self):
        """The sum of the absolute values of the centred coefficients."""
        return row_weight(centre(self.ring, self._poly))

    def __eq__(self, other):
        return isinstance(other, Element) and self.ring == other.ring and self._poly == other._poly

    def __len__(self):
        return len(self._poly)

    def __iter__(self):
        return iter(self._poly)

    def __getitem__(self, at):
        check_between("index", at, 0, len(self._poly) - 1)
        return self._poly[at]

    def __add__(self, other):
        if not isinstance(other, Element):
            return NotImplemented
        check_same_ring(self.ring, other.ring)
        return Element(self.ring, add(self.ring, self._poly, other._poly))

    def __sub__(self, other):
        if not isinstance(other, Element):
            return NotImplemented
        check_same_ring(self.ring, other.ring)
        return Element(self.ring, subtract(self.ring, self._poly, other._poly))

    def __neg__(self):
        return Element(self.ring, negate(self.ring, self._poly))

    def __mul__(self, other):
        if is_number(other):
            return Element(self.ring, scale(self.ring, self._poly, other))
        if not isinstance(other, Element):
            return NotImplemented
        check_same_ring(self.ring, other.ring)
        return Element(self.ring, multiply_fast(self.ring, self._poly, other._poly))

    def __rmul__(self, other):
        if not is_number(other):
            return NotImplemented
        return Element(self.ring, scale(self.ring, self._poly, other))

    def __pow__(self, other):
        check_between("exponent", other, 0, GREATEST_EXPONENT)
        # The factors are multiplied as spectra, so that only the result is changed back.
        factor = to_spectrum(self.ring, self._poly)
        result = to_spectrum(self.ring, constant(self.ring, 1))
        for _ in range(other):
            result = multiply_spectra(self.ring, result, factor)
        return Element(self.ring, from_spectrum(self.ring, result))
