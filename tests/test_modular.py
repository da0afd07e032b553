import math
import unittest

from noisebound.modular import (
    centred,
    distance,
    inverse,
    is_prime,
    least_divisor,
    order_of,
    power,
    primes_for,
    residue,
    reverse_bits,
    roots_of,
)
from tests.tools import HUGE, ProgramTest, no_choice, no_integer, out_of_range, refusal

DEGREES = (8, 16, 32, 64, 128, 256)
MODULI = (2, 3, 4, 8, 12, 17, 97, 256, 3329, 4093, 4094, 4095)
VALUES = (*range(-20, 21), 4093, 4094, 4095, 4096, -4094, -4095, -4096, 10 ** 300 + 7, -(10 ** 300) - 7, HUGE, -HUGE)

BAD_MODULI = out_of_range("q", 2, 4095)
BAD_VALUES = no_integer("value")

PRIMES = [value for value in range(2, 4096) if all(value % other for other in range(2, math.isqrt(value) + 1))]


class ResidueTest(ProgramTest):

    def test_examples(self):
        self.same([centred(8, 17), centred(9, 17), centred(4, 8)], [8, -8, 4])

    def test_residues(self):
        self.same([residue(-1, 17), residue(0, 17), residue(17, 17), residue(35, 17)], [16, 0, 0, 1])
        for q in MODULI:
            for value in VALUES:
                found = residue(value, q)
                self.assertTrue(0 <= found < q)
                self.assertEqual((value - found) // q * q, value - found)

    def test_centred_forms(self):
        for q in MODULI:
            for value in VALUES:
                found = centred(value, q)
                self.assertTrue(-q < 2 * found <= q)
                self.assertEqual((value - found) // q * q, value - found)

    def test_half_of_even_and_odd_moduli(self):
        self.same([centred(1, 2), centred(-1, 2), centred(0, 2)], [1, 1, 0])
        self.same([centred(1, 3), centred(2, 3), centred(-1, 3)], [1, -1, -1])
        self.same([centred(2047, 4094), centred(2048, 4094), centred(-2047, 4094)], [2047, -2046, 2047])
        self.same([centred(2047, 4095), centred(2048, 4095), centred(-2047, 4095)], [2047, -2047, -2047])

    def test_distances(self):
        self.same([distance(1, 16, 17), distance(16, 1, 17), distance(0, 8, 17), distance(0, 9, 17)], [2, 2, 8, 8])
        self.same([distance(0, 4, 8), distance(0, 5, 8), distance(3, 3, 2), distance(0, 1, 2)], [4, 3, 0, 1])
        for q in MODULI:
            for value in VALUES:
                rest = (value - 5) % q
                self.same(distance(value, 5, q), min(rest, q - rest))
                self.same(distance(5, value, q), min(rest, q - rest))

    def test_calls(self):
        self.check_calls(residue, {"value": -5, "q": 17}, 12)
        self.check_calls(centred, {"value": 12, "q": 17}, -5)
        self.check_calls(distance, {"first": 3, "second": -9, "q": 17}, 5)

    def test_refusals(self):
        bad = {"value": BAD_VALUES, "q": BAD_MODULI}
        for function in (residue, centred):
            self.check_refusals(function, {"value": HUGE, "q": 2}, bad)
            self.check_refusals(function, {"value": -HUGE, "q": 4095}, bad)
        bad = {"first": no_integer("first"), "second": no_integer("second"), "q": BAD_MODULI}
        self.check_refusals(distance, {"first": HUGE, "second": -HUGE, "q": 4095}, bad)


class PowerTest(ProgramTest):

    def test_powers(self):
        for q in MODULI:
            for value in VALUES:
                for exponent in (0, 1, 2, 3, 10, 255, 256, 1000, 999999, 1000000):
                    self.same(power(value, exponent, q), pow(value, exponent, q))

    def test_exponents_0_and_1(self):
        for q in MODULI:
            self.same([power(0, 0, q), power(q, 0, q), power(-3, 0, q)], [1, 1, 1])
            self.same([power(0, 1, q), power(-1, 1, q), power(HUGE, 1, q)], [0, q - 1, HUGE % q])

    def test_calls(self):
        self.check_calls(power, {"base": 3, "exponent": 4, "q": 17}, 13)

    def test_refusals(self):
        good = {"base": -HUGE, "exponent": 0, "q": 2}
        exponents = out_of_range("exponent", 0, 1000000)
        self.check_refusals(power, good, {"base": no_integer("base"), "exponent": exponents, "q": BAD_MODULI})


class InverseTest(ProgramTest):

    def test_inverses_and_orders(self):
        for q in MODULI:
            for value in VALUES:
                if math.gcd(value, q) > 1:
                    self.same(refusal(inverse, value, q), ("NotInvertible", value))
                    self.same(refusal(order_of, value, q), ("NotInvertible", value))
                else:
                    self.same(inverse(value, q), pow(value, -1, q))
                    self.check_order_of(value, q)

    def check_order_of(self, value, q):
        found = order_of(value, q)
        self.assertEqual(pow(value, found, q), 1)
        for prime in PRIMES:
            if found % prime == 0:
                self.assertNotEqual(pow(value, found // prime, q), 1)

    def test_all_values_of_small_moduli(self):
        for q in range(2, 40):
            for value in range(-q, 2 * q):
                matches = [other for other in range(q) if value * other % q == 1]
                if matches:
                    self.same(inverse(value, q), matches[0])
                    self.same(order_of(value, q), next(e for e in range(1, q) if value ** e % q == 1))
                else:
                    self.same(refusal(inverse, value, q), ("NotInvertible", value))
                    self.same(refusal(order_of, value, q), ("NotInvertible", value))

    def test_edges(self):
        self.same([inverse(1, 2), inverse(-1, 2), order_of(1, 2), order_of(3, 2)], [1, 1, 1, 1])
        self.same([inverse(2, 4095), inverse(4094, 4095), inverse(3, 4094)], [2048, 4094, 1365])
        self.same([order_of(4094, 4095), order_of(1, 4095), order_of(2, 4093)], [2, 1, 4092])

    def test_value_as_it_was_passed(self):
        for value, q in ((0, 2), (17, 17), (-34, 17), (6, 4), (21, 4095), (-21, 4095), (12 * 10 ** 500, 4094)):
            self.same(refusal(inverse, value, q), ("NotInvertible", value))
            self.same(refusal(order_of, value, q), ("NotInvertible", value))

    def test_calls(self):
        self.check_calls(inverse, {"value": -2, "q": 17}, 8)
        self.check_calls(order_of, {"value": 2, "q": 17}, 8)

    def test_refusals(self):
        bad = {"value": BAD_VALUES, "q": BAD_MODULI}
        for function in (inverse, order_of):
            self.check_refusals(function, {"value": 1, "q": 2}, bad)
            self.same(refusal(function, 0, 1), ("OutOfRange", "q"))
            self.same(refusal(function, 0, 4096), ("OutOfRange", "q"))


class PrimesTest(ProgramTest):

    def test_divisors_and_primes(self):
        for value in range(2, 4096):
            divisors = [other for other in range(2, 64) if value % other == 0]
            self.same(least_divisor(value), divisors[0] if divisors else value)
            self.same(is_prime(value), value in PRIMES)
        self.same([is_prime(0), is_prime(1), is_prime(2), is_prime(3), is_prime(4)], [False, False, True, True, False])
        self.same([least_divisor(2), least_divisor(4), least_divisor(3969), least_divisor(4095)], [2, 2, 3, 3])
        self.same([least_divisor(3721), least_divisor(4093), is_prime(4093), is_prime(4095)], [61, 4093, True, False])

    def test_primes_for_each_degree(self):
        for n in DEGREES:
            self.same(primes_for(n), [q for q in PRIMES if q % n == 1])
        self.same(primes_for(256), [257, 769, 3329])
        self.same(primes_for(8)[:4], [17, 41, 73, 89])

    def test_calls(self):
        self.check_calls(least_divisor, {"value": 35}, 5)
        self.check_calls(is_prime, {"value": 35}, False)
        self.check_calls(primes_for, {"n": 256}, [257, 769, 3329])

    def test_refusals(self):
        self.check_refusals(least_divisor, {"value": 2}, {"value": out_of_range("value", 2, 4095)})
        self.check_refusals(is_prime, {"value": 0}, {"value": out_of_range("value", 0, 4095)})
        self.check_refusals(is_prime, {"value": 4095}, {"value": out_of_range("value", 0, 4095)})
        self.check_refusals(primes_for, {"n": 8}, {"n": no_choice("n", DEGREES)})


class RootsTest(ProgramTest):

    def test_examples(self):
        self.same(roots_of(8, 17), [2, 8, 9, 15])

    def test_roots_of_each_degree(self):
        for n in DEGREES:
            for q in (3, 5, 7, 13, 17, 19, 31, 97, 257, 769, 3329, 4091, 4093):
                expected = [value for value in range(q) if pow(value, n // 2, q) == q - 1]
                self.same(roots_of(n, q), expected)
                self.assertEqual(len(expected), 0 if (q - 1) % n else n // 2)

    def test_roots_have_the_order_of_the_degree(self):
        for n, q in ((8, 17), (16, 97), (32, 257), (256, 257), (64, 193)):
            self.same(roots_of(n, q), [value for value in range(1, q) if order_of(value, q) == n])

    def test_primes_without_roots(self):
        for n in DEGREES:
            for q in (3, 5, 7, 11, 13, 4093):
                self.same(roots_of(n, q), [])
        self.same([roots_of(16, 41), roots_of(256, 97)], [[], []])

    def test_calls(self):
        self.check_calls(roots_of, {"n": 8, "q": 17}, [2, 8, 9, 15])
        self.check_calls(roots_of, {"n": 16, "q": 41}, [])

    def test_refusals(self):
        bad = out_of_range("q", 3, 4095)
        bad = bad + [(q, ("OutOfRange", "q")) for q in (-17, 0, 1, 2, 4, 9, 15, 17.0, 4087, 4095)]
        self.check_refusals(roots_of, {"n": 8, "q": 17}, {"n": no_choice("n", DEGREES), "q": bad})
        self.check_refusals(roots_of, {"n": 256, "q": 3}, {"n": no_choice("n", DEGREES), "q": bad})


class ReverseBitsTest(ProgramTest):

    def test_reverses(self):
        self.same(reverse_bits(0, 0), 0)
        self.same([reverse_bits(1, 0), reverse_bits(1, 1)], [0, 1])
        self.same([reverse_bits(3, value) for value in range(8)], [0, 4, 2, 6, 1, 5, 3, 7])
        self.same([reverse_bits(12, 1), reverse_bits(12, 4095), reverse_bits(12, 6)], [2048, 4095, 1536])

    def test_all_integers(self):
        for count in range(1, 13):
            for value in range(2 ** count):
                expected = int(bin(value)[2:].zfill(count)[::-1], 2)
                self.same(reverse_bits(count, value), expected)

    def test_calls(self):
        self.check_calls(reverse_bits, {"count": 4, "value": 1}, 8)

    def test_refusals(self):
        for count in (0, 1, 12):
            value = out_of_range("value", 0, 2 ** count - 1)
            bad = {"count": out_of_range("count", 0, 12), "value": value}
            self.check_refusals(reverse_bits, {"count": count, "value": 0}, bad)


if __name__ == "__main__":
    unittest.main()
