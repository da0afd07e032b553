import random
import unittest

from noisebound.pressing import (
    noise_range, press, press_bound, press_error, press_errors, press_polynomial, presses_exactly, read_bit,
    residues_of_code, unpress, unpress_polynomial,
)
from noisebound.rings import Ring
from tests.tools import (
    OTHER_KINDS, RINGS, ProgramTest, bad_list, centred_form, out_of_range, refusal, special_polynomials,
)

RING = Ring(8, 17, 2)
WIDTHS = range(1, 12)
SMALL_MODULI = (3, 5, 7, 9, 15, 17, 31, 33, 63, 65, 97, 127, 129, 255, 257)
MODULI = (*SMALL_MODULI, 511, 513, 1023, 1025, 2047, 2049, 3329, 4091, 4093, 4095)
NO_MODULI = (2, 4, 16, 256, 3328, 4094, 1, -17, 17.0)
BAD_Q = out_of_range("q", 3, 4095) + [(value, ("OutOfRange", "q")) for value in NO_MODULI]
BAD_WIDTH = out_of_range("width", 1, 11) + [(value, ("OutOfRange", "width")) for value in (8.0, 12, 0)]


def code_by_fractions(q, width, value):
    """The nearest number of 2^d * x / q, halves upward, in whole numbers."""
    twice = 2 * (1 << width) * value
    code = twice // (2 * q)
    if twice - 2 * q * code >= q:
        code += 1
    return code % (1 << width)


def residue_by_fractions(q, width, code):
    """The nearest number of q * c / 2^d, halves upward, in whole numbers."""
    count = 1 << width
    value = q * code // count
    if 2 * (q * code - value * count) >= count:
        value += 1
    return value % q


def some_residues(q):
    if q < 300:
        return range(q)
    chance = random.Random(q)
    near = [place * q // 16 + step for place in range(17) for step in (-2, -1, 0, 1, 2)]
    return sorted({value for value in near if 0 <= value < q} | {chance.randrange(q) for _ in range(50)})


def all_codes(width):
    return range(1 << width)


class PressTest(ProgramTest):

    def test_example(self):
        found = [press(17, 2, 2), press(17, 2, 3), press(17, 2, 15), unpress(17, 2, 3), press_error(17, 2, 15)]
        self.same(found, [0, 1, 0, 13, 2])
        self.same(unpress(17, 11, 2047), 0)

    def test_codes(self):
        for q in MODULI:
            for width in WIDTHS:
                for value in some_residues(q):
                    code = code_by_fractions(q, width, value)
                    self.same(press(q, width, value), code)
                    self.same(code, ((2 ** (width + 1) * value + q) // (2 * q)) % 2 ** width)

    def test_residues(self):
        for q in MODULI:
            for width in WIDTHS:
                for code in all_codes(width):
                    value = residue_by_fractions(q, width, code)
                    self.same(unpress(q, width, code), value)
                    self.same(value, (2 * q * code + 2 ** width) // 2 ** (width + 1) % q)

    def test_errors(self):
        for q in MODULI:
            for width in WIDTHS:
                for value in some_residues(q):
                    moved = residue_by_fractions(q, width, code_by_fractions(q, width, value))
                    self.same(press_error(q, width, value), centred_form(moved - value, q))

    def test_great_residues_wrap(self):
        for q in MODULI:
            for width in WIDTHS:
                self.assertIs(press(q, width, q - 1) == 0, q > 2 ** (width + 1))
        self.same([press(17, 1, value) for value in (4, 5, 12, 13, 16)], [0, 1, 1, 0, 0])
        self.same(press(3329, 10, 3328), 0)
        self.same(press(3329, 11, 3328), 2047)

    def test_calls(self):
        self.check_calls(press, {"q": 17, "width": 2, "value": 3}, 1)
        self.check_calls(unpress, {"q": 17, "width": 2, "code": 3}, 13)
        self.check_calls(press_error, {"q": 17, "width": 2, "value": 15}, 2)
        self.check_calls(press_bound, {"q": 17, "width": 2}, 2)
        self.check_calls(presses_exactly, {"q": 17, "width": 5}, True)

    def test_refusals(self):
        for function in (press, press_error):
            for q, width in ((17, 2), (3, 11), (4095, 1)):
                bad = {"q": BAD_Q, "width": BAD_WIDTH, "value": out_of_range("value", 0, q - 1)}
                self.check_refusals(function, {"q": q, "width": width, "value": q - 1}, bad)
        for q, width in ((17, 2), (3, 11), (4095, 1)):
            bad = {"q": BAD_Q, "width": BAD_WIDTH, "code": out_of_range("code", 0, 2 ** width - 1)}
            for function in (unpress, residues_of_code):
                self.check_refusals(function, {"q": q, "width": width, "code": 2 ** width - 1}, bad)
        for function in (press_bound, presses_exactly):
            self.check_refusals(function, {"q": 3, "width": 11}, {"q": BAD_Q, "width": BAD_WIDTH})


class BoundTest(ProgramTest):

    def test_bounds(self):
        for q in MODULI:
            for width in WIDTHS:
                self.same(press_bound(q, width), (q + 2 ** width) // 2 ** (width + 1))
        self.same([press_bound(3329, width) for width in (1, 4, 5, 10, 11)], [832, 104, 52, 2, 1])
        self.same([press_bound(97, 7), press_bound(97, 6), press_bound(17, 5), press_bound(3, 1)], [0, 1, 0, 1])

    def test_the_bound_is_kept_and_reached(self):
        for q in MODULI:
            for width in WIDTHS:
                bound = press_bound(q, width)
                errors = [press_error(q, width, value) for value in some_residues(q)]
                self.assertLessEqual(max(abs(error) for error in errors), bound)
                self.same(press_error(q, width, (q + 1) // 2 - bound), bound)

    def test_exact_pressing(self):
        for q in MODULI:
            for width in WIDTHS:
                self.assertIs(presses_exactly(q, width), 2 ** width > q)
        for q in SMALL_MODULI:
            for width in WIDTHS:
                errors = [press_error(q, width, value) for value in range(q)]
                self.assertIs(presses_exactly(q, width), errors == [0] * q)

    def test_codes_come_back_below_the_modulus(self):
        for q in MODULI:
            for width in WIDTHS:
                codes = range(1 << width)
                back = [press(q, width, unpress(q, width, code)) for code in codes]
                self.assertIs(back == list(codes), 2 ** width < q)


class ResiduesOfCodeTest(ProgramTest):

    def test_all_codes(self):
        for q in (3, 9, 15, 17, 33, 97, 129):
            for width in WIDTHS:
                residues = [[] for _ in range(1 << width)]
                for value in range(q):
                    residues[code_by_fractions(q, width, value)].append(value)
                for code in all_codes(width):
                    self.same(residues_of_code(q, width, code), residues[code])

    def test_great_moduli(self):
        for q in (3329, 4095):
            for width in (1, 4, 11):
                for code in (0, 1, (1 << width) - 1):
                    expected = [value for value in range(q) if code_by_fractions(q, width, value) == code]
                    self.same(residues_of_code(q, width, code), expected)

    def test_code_0_from_both_ends(self):
        self.same(residues_of_code(17, 2, 0), [0, 1, 2, 15, 16])
        self.same(residues_of_code(17, 1, 0), [0, 1, 2, 3, 4, 13, 14, 15, 16])
        self.same(residues_of_code(17, 1, 1), [5, 6, 7, 8, 9, 10, 11, 12])

    def test_codes_without_a_residue(self):
        self.same([code for code in range(32) if residues_of_code(17, 5, code) == []],
                  [1, 3, 5, 7, 10, 12, 14, 16, 18, 20, 22, 25, 27, 29, 31])
        self.same(residues_of_code(3, 11, 1), [])
        self.same(residues_of_code(3, 11, 2047), [])
        for q in SMALL_MODULI:
            for width in range(1, 10):
                empty = [code for code in range(1 << width) if residues_of_code(q, width, code) == []]
                self.assertIs(empty != [], 2 ** width > q)

    def test_where_one_code_passes_into_the_next(self):
        for q in MODULI:
            for width in WIDTHS:
                if 2 ** width > q:
                    continue
                for code in {0, 1, (1 << width) - 2} - {(1 << width) - 1}:
                    residues = [value for value in residues_of_code(q, width, code) if 2 * value < q or code > 0]
                    self.same(press(q, width, residues[-1]), code)
                    self.same(press(q, width, residues[-1] + 1), code + 1)

    def test_calls(self):
        self.check_calls(residues_of_code, {"q": 17, "width": 3, "code": 0}, [0, 1, 16])


class PolynomialTest(ProgramTest):

    def test_items(self):
        for n, q, root in RINGS:
            ring = Ring(n, q, root)
            for poly in special_polynomials(n, q):
                for width in WIDTHS:
                    codes = [code_by_fractions(q, width, value) for value in poly]
                    moved = [residue_by_fractions(q, width, code) for code in codes]
                    self.same(press_polynomial(ring, width, poly), codes)
                    self.same(unpress_polynomial(ring, width, codes), moved)
                    errors = [centred_form(after - value, q) for after, value in zip(moved, poly)]
                    self.same(press_errors(ring, width, poly), errors)

    def test_greatest_codes(self):
        for n, q, root in RINGS:
            for width in WIDTHS:
                greatest = 2 ** width - 1
                expected = [residue_by_fractions(q, width, greatest)] * n
                self.same(unpress_polynomial(Ring(n, q, root), width, [greatest] * n), expected)

    def test_calls(self):
        poly = [0, 2, 3, 15, 16, 8, 9, 4]
        self.check_calls(press_polynomial, {"ring": RING, "width": 2, "poly": poly}, [0, 0, 1, 0, 0, 2, 2, 1])
        self.check_calls(press_errors, {"ring": RING, "width": 2, "poly": poly}, [0, -2, 1, 2, 1, 1, 0, 0])
        good = {"ring": RING, "width": 2, "codes": [0, 1, 2, 3, 3, 2, 1, 0]}
        self.check_calls(unpress_polynomial, good, [0, 4, 9, 13, 13, 9, 4, 0])

    def test_refusals(self):
        for width in (1, 2, 11):
            good = {"ring": RING, "width": width, "poly": [0, 16] * 4}
            for function in (press_polynomial, press_errors):
                self.check_refusals(function, good, {"width": BAD_WIDTH, "poly": bad_list(0, 16, [0, 16] * 4)})
            codes = [0, 2 ** width - 1] * 4
            bad = {"width": BAD_WIDTH, "codes": bad_list(0, 2 ** width - 1, codes)}
            self.check_refusals(unpress_polynomial, {"ring": RING, "width": width, "codes": codes}, bad)

    def test_codes_above_the_modulus(self):
        self.same(refusal(unpress_polynomial, RING, 5, [31] * 8)[0], "answer")
        self.same(refusal(unpress_polynomial, RING, 4, [15] * 7 + [16]), ("BadItem", 7))


class BitTest(ProgramTest):

    def test_bits(self):
        for n, q, root in RINGS:
            ring = Ring(n, q, root)
            for value in range(q):
                bit = read_bit(ring, value)
                self.same(bit, 1 if q < 4 * value < 3 * q else 0)
                self.same(bit, press(q, 1, value))

    def test_ranges(self):
        self.same([noise_range(Ring(8, 17, 2), 0), noise_range(Ring(8, 17, 2), 1)], [(-4, 4), (-4, 3)])
        for n, q, root in RINGS:
            ring = Ring(n, q, root)
            self.same(noise_range(ring, 0), (-((q - 1) // 4), (q - 1) // 4))
            self.same(noise_range(ring, 1), (-((q - 1) // 4), (q - 1) // 4 - 1))

    def test_noise_in_and_out_of_the_range(self):
        for n, q, root in RINGS:
            ring = Ring(n, q, root)
            for bit in (0, 1):
                low, high = noise_range(ring, bit)
                for noise in range(-(q // 2), q // 2 + 1):
                    found = read_bit(ring, (bit * ring.half + noise) % q)
                    self.assertIs(found == bit, low <= noise <= high)

    def test_calls(self):
        self.check_calls(read_bit, {"ring": RING, "value": 5}, 1)
        self.check_calls(noise_range, {"ring": RING, "bit": 1}, (-4, 3))

    def test_refusals(self):
        for n, q, root in ((8, 17, 2), (256, 3329, 17)):
            good = {"ring": Ring(n, q, root), "value": q - 1}
            self.check_refusals(read_bit, good, {"value": out_of_range("value", 0, q - 1)})
        self.check_refusals(noise_range, {"ring": RING, "bit": 0}, {"bit": out_of_range("bit", 0, 1)})
        for value in OTHER_KINDS:
            self.same(refusal(noise_range, RING, value), ("OutOfRange", "bit"))


if __name__ == "__main__":
    unittest.main()
