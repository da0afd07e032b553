"""Pressing: residues as codes of a few bits, the errors of that, and the bits of residues."""

from noisebound.checks import check_between, check_polynomial, check_row, is_between
from noisebound.errors import OutOfRange
from noisebound.modular import GREATEST_MODULUS, centred


def check_press(q, width):
    """Refuse what is not an odd modulus, then what is not a width."""
    if not is_between(q, 3, GREATEST_MODULUS) or q % 2 == 0:
        raise OutOfRange("q")
    check_width(width)


def check_width(width):
    """Refuse what is not a width."""
    check_between("width", width, 1, 11)


def check_code(width, code):
    """Refuse what is not a code of this width."""
    check_between("code", code, 0, greatest_code(width))


def greatest_code(width):
    """Return the greatest code of a width."""
    return (1 << width) - 1


def press(q, width, value):
    """Return the code of a residue."""
    check_press(q, width)
    check_between("value", value, 0, q - 1)
    return code_of(q, width, value)


def code_of(q, width, value):
    """Return the code of what was checked before."""
    return (((value << (width + 1)) + q) // (2 * q)) & greatest_code(width)


def unpress(q, width, code):
    """Return the residue of a code."""
    check_press(q, width)
    check_code(width, code)
    return residue_of(q, width, code)


def residue_of(q, width, code):
    """Return the residue of a code that was checked before."""
    return ((2 * q * code + (1 << width)) >> (width + 1)) % q


def press_error(q, width, value):
    """Return by how much pressing and unpressing move a residue."""
    check_press(q, width)
    check_between("value", value, 0, q - 1)
    return error_of(q, width, value)


def error_of(q, width, value):
    """Return the press error of what was checked before."""
    return centred(residue_of(q, width, code_of(q, width, value)) - value, q)


def press_bound(q, width):
    """Return the largest absolute value of a press error."""
    check_press(q, width)
    return (q + (1 << width)) >> (width + 1)


def presses_exactly(q, width):
    """Tell if all press errors are 0."""
    check_press(q, width)
    return (1 << width) > q


def residues_of_code(q, width, code):
    """List the residues that have this code."""
    check_press(q, width)
    check_code(width, code)
    return [value for value in range(q) if code_of(q, width, value) == code]


def press_polynomial(ring, width, poly):
    """Return the codes of the items."""
    check_width(width)
    check_polynomial(ring, poly)
    return [code_of(ring.q, width, item) for item in poly]


def unpress_polynomial(ring, width, codes):
    """Return the polynomial of the residues of n codes."""
    check_width(width)
    check_row(codes, ring.n, 0, greatest_code(width))
    return [residue_of(ring.q, width, code) for code in codes]


def press_errors(ring, width, poly):
    """Return the press errors of the items."""
    check_width(width)
    check_polynomial(ring, poly)
    return [error_of(ring.q, width, item) for item in poly]


def read_bit(ring, value):
    """Return the bit that a residue is nearer to."""
    check_between("value", value, 0, ring.q - 1)
    return code_of(ring.q, 1, value)


def noise_range(ring, bit):
    """Return the lowest and the highest noise that leaves a bit as it is."""
    check_between("bit", bit, 0, 1)
    return (-ring.quarter, ring.quarter - bit)
