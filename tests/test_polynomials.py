import itertools
import random
import unittest

from noisebound.polynomials import (
    add, centre, constant, evaluate, from_centred, monomial, multiply_plain, negate, scale, shift, size, subtract,
    weight,
)
from noisebound.rings import Ring
from tests.tools import (
    HUGE, RINGS, SMALL_RINGS, ProgramTest, bad_list, centred_form, no_integer, out_of_range, product_by_sum, refusal,
    special_polynomials,
)

RING = Ring(8, 17, 2)
POLY = [1, 2, 0, 16, 9, 8, 0, 3]
OTHER = [16, 0, 5, 8, 9, 1, 2, 15]
BAD_POLY = bad_list(0, 16, POLY)
BAD_NUMBERS = bad_list(-HUGE, HUGE, POLY)[:6] + [
    ([*POLY[:place], value, *POLY[place + 1:]], ("BadItem", place))
    for place in (0, 3, 7) for value in (True, False, None, 1.0, "1", [1], (), b"\x01")
]

VALUES = (0, 1, -1, 2, 16, 17, 18, -17, -18, 34, 3329, -3330, 17 * 10 ** 800, 17 * 10 ** 800 + 5, HUGE, -HUGE)


def rings_and_polynomials(triples):
    for n, q, root in triples:
        yield n, q, Ring(n, q, root), special_polynomials(n, q)


class ConstantTest(ProgramTest):

    def test_values(self):
        for n, q, root in RINGS:
            for value in (*VALUES, q - 1, q, q + 1, -q, 1 - q, q * 10 ** 700, (q + 1) // 2):
                self.same(constant(Ring(n, q, root), value), [value % q] + [0] * (n - 1))

    def test_calls(self):
        self.check_calls(constant, {"ring": RING, "value": -1}, [16, 0, 0, 0, 0, 0, 0, 0])

    def test_refusals(self):
        self.check_refusals(constant, {"ring": RING, "value": 5}, {"value": no_integer("value")})


class MonomialTest(ProgramTest):

    def test_every_exponent(self):
        for n, q, root in SMALL_RINGS:
            for exponent in range(2 * n):
                for value in (1, 2, -1, q - 1, q, q + 5, -HUGE, HUGE):
                    expected = [0] * n
                    expected[exponent % n] = (value if exponent < n else -value) % q
                    self.same(monomial(Ring(n, q, root), exponent, value=value), expected)

    def test_ends_of_great_rings(self):
        for n, q, root in RINGS:
            for exponent, place, item in ((0, 0, 1), (n - 1, n - 1, 1), (n, 0, q - 1), (2 * n - 1, n - 1, q - 1)):
                expected = [0] * n
                expected[place] = item
                self.same(monomial(Ring(n, q, root), exponent), expected)

    def test_default_value(self):
        self.same(monomial(RING, 3), [0, 0, 0, 1, 0, 0, 0, 0])
        self.same(monomial(RING, 11), [0, 0, 0, 16, 0, 0, 0, 0])

    def test_calls(self):
        good = {"ring": RING, "exponent": 9, "value": 5}
        self.check_calls(monomial, good, [0, 12, 0, 0, 0, 0, 0, 0], keyword_only=1)

    def test_refusals(self):
        bad = {"exponent": out_of_range("exponent", 0, 15), "value": no_integer("value")}
        self.check_refusals(monomial, {"ring": RING, "exponent": 0, "value": 1}, bad)
        bad = {"exponent": out_of_range("exponent", 0, 511), "value": no_integer("value")}
        self.check_refusals(monomial, {"ring": Ring(256, 3329, 17), "exponent": 511, "value": 0}, bad)


class SumTest(ProgramTest):

    def test_items(self):
        for n, q, ring, polys in rings_and_polynomials(RINGS):
            for one, other in itertools.product(polys, repeat=2):
                self.same(add(ring, one, other), [(a + b) % q for a, b in zip(one, other)])
                self.same(subtract(ring, one, other), [(a - b) % q for a, b in zip(one, other)])
                self.same(add(ring, one, other), add(ring, other, one))
                self.same(add(ring, subtract(ring, one, other), other), one)

    def test_one_polynomial_with_itself(self):
        for n, q, ring, polys in rings_and_polynomials(RINGS):
            for poly in polys:
                self.same(add(ring, poly, poly), [2 * item % q for item in poly])
                self.same(subtract(ring, poly, poly), [0] * n)

    def test_negate(self):
        for n, q, ring, polys in rings_and_polynomials(RINGS):
            for poly in polys:
                self.same(negate(ring, poly), [-item % q for item in poly])
                self.same(add(ring, poly, negate(ring, poly)), [0] * n)
                self.same(negate(ring, negate(ring, poly)), poly)

    def test_calls(self):
        good = {"ring": RING, "first": POLY, "second": OTHER}
        self.check_calls(add, good, [0, 2, 5, 7, 1, 9, 2, 1])
        self.check_calls(subtract, good, [2, 2, 12, 8, 0, 7, 15, 5])
        self.check_calls(negate, {"ring": RING, "poly": POLY}, [16, 15, 0, 1, 8, 9, 0, 14])

    def test_refusals(self):
        for function in (add, subtract, multiply_plain):
            bad = {"first": BAD_POLY, "second": BAD_POLY}
            self.check_refusals(function, {"ring": RING, "first": POLY, "second": OTHER}, bad)
        self.check_refusals(negate, {"ring": RING, "poly": POLY}, {"poly": BAD_POLY})


class ScaleTest(ProgramTest):

    def test_items(self):
        for n, q, ring, polys in rings_and_polynomials(RINGS):
            for poly in polys:
                for factor in (*VALUES, q, -q, q - 1, q + 1, q * 10 ** 500 - 1):
                    self.same(scale(ring, poly, factor), [item * factor % q for item in poly])

    def test_calls(self):
        good = {"ring": RING, "poly": POLY, "factor": -2}
        self.check_calls(scale, good, [15, 13, 0, 2, 16, 1, 0, 11])

    def test_refusals(self):
        bad = {"poly": BAD_POLY, "factor": no_integer("factor")}
        self.check_refusals(scale, {"ring": RING, "poly": POLY, "factor": 3}, bad)


class ShiftTest(ProgramTest):

    def test_example(self):
        self.same(shift(Ring(8, 17, 2), [1, 2, 0, 0, 0, 0, 0, 3], 1), [14, 1, 2, 0, 0, 0, 0, 0])

    def test_every_exponent(self):
        for n, q, ring, polys in rings_and_polynomials(SMALL_RINGS):
            for exponent in range(2 * n):
                self.same(shift(ring, polys[-1], exponent), self.moved(n, q, polys[-1], exponent))

    def test_ends(self):
        for n, q, ring, polys in rings_and_polynomials(RINGS):
            for poly in polys:
                for exponent in (0, 1, n - 1, n, n + 1, 2 * n - 1):
                    self.same(shift(ring, poly, exponent), self.moved(n, q, poly, exponent))
                self.same(shift(ring, poly, 0), poly)
                self.same(shift(ring, poly, n), [-item % q for item in poly])

    def test_as_a_product(self):
        for n, q, ring, polys in rings_and_polynomials(((8, 17, 15), (16, 4049, 276))):
            for exponent in range(2 * n):
                product = multiply_plain(ring, polys[-1], monomial(ring, exponent))
                self.same(shift(ring, polys[-1], exponent), product)

    def moved(self, n, q, poly, exponent):
        expected = [0] * n
        for place, item in enumerate(poly):
            place = place + exponent
            sign = 1
            while place >= n:
                place, sign = place - n, -sign
            expected[place] = sign * item % q
        return expected

    def test_calls(self):
        good = {"ring": RING, "poly": POLY, "exponent": 9}
        self.check_calls(shift, good, [3, 16, 15, 0, 1, 8, 9, 0])

    def test_refusals(self):
        bad = {"poly": BAD_POLY, "exponent": out_of_range("exponent", 0, 15)}
        self.check_refusals(shift, {"ring": RING, "poly": POLY, "exponent": 15}, bad)
        self.check_refusals(shift, {"ring": RING, "poly": POLY, "exponent": 0}, bad)


class ProductTest(ProgramTest):

    def test_by_the_sum(self):
        for n, q, ring, polys in rings_and_polynomials(SMALL_RINGS):
            for one, other in itertools.product(polys, repeat=2):
                self.same(multiply_plain(ring, one, other), product_by_sum(n, q, one, other))

    def test_great_rings(self):
        for n, q, ring, polys in rings_and_polynomials(((128, 3457, 63), (256, 257, 3), (256, 3329, 17))):
            for one, other in itertools.combinations_with_replacement(polys[2::2], 2):
                self.same(multiply_plain(ring, one, other), product_by_sum(n, q, one, other))

    def test_places_of_monomials(self):
        for one, other in itertools.product(range(8), repeat=2):
            expected = [0] * 8
            expected[(one + other) % 8] = 1 if one + other < 8 else 16
            self.same(multiply_plain(RING, monomial(RING, one), monomial(RING, other)), expected)

    def test_facts(self):
        for n, q, ring, polys in rings_and_polynomials(SMALL_RINGS):
            for one, other in itertools.product(polys, repeat=2):
                product = multiply_plain(ring, one, other)
                self.same(multiply_plain(ring, other, one), product)
                bound = min(size(ring, one) * weight(ring, other), size(ring, other) * weight(ring, one))
                self.assertLessEqual(size(ring, product), bound)
            for poly in polys:
                self.same(multiply_plain(ring, poly, constant(ring, 1)), poly)
                self.same(multiply_plain(ring, constant(ring, -3), poly), scale(ring, poly, -3))
                self.same(multiply_plain(ring, poly, [0] * n), [0] * n)

    def test_three_factors(self):
        for n, q, ring, polys in rings_and_polynomials(((8, 17, 2), (16, 4049, 276), (32, 97, 78))):
            for a, b, c in itertools.product(polys[1:], repeat=3):
                left = multiply_plain(ring, multiply_plain(ring, a, b), c)
                self.same(multiply_plain(ring, a, multiply_plain(ring, b, c)), left)
                parts = add(ring, multiply_plain(ring, a, b), multiply_plain(ring, a, c))
                self.same(multiply_plain(ring, a, add(ring, b, c)), parts)

    def test_calls(self):
        good = {"ring": RING, "first": [1, 2, 0, 0, 0, 0, 0, 3], "second": [0, 1, 0, 0, 0, 0, 0, 0]}
        self.check_calls(multiply_plain, good, [14, 1, 2, 0, 0, 0, 0, 0])


class CentreTest(ProgramTest):

    def test_items(self):
        for n, q, ring, polys in rings_and_polynomials(RINGS):
            for poly in polys:
                row = [centred_form(item, q) for item in poly]
                self.same(centre(ring, poly), row)
                self.same(from_centred(ring, row), poly)
                self.same(size(ring, poly), max(abs(number) for number in row))
                self.same(weight(ring, poly), sum(abs(number) for number in row))

    def test_around_the_half(self):
        poly = [0, 1, 7, 8, 9, 10, 15, 16]
        self.same(centre(RING, poly), [0, 1, 7, 8, -8, -7, -2, -1])
        self.same([size(RING, poly), weight(RING, poly)], [8, 34])
        for n, q, root in RINGS:
            for value, expected in (((q - 1) // 2, (q - 1) // 2), ((q + 1) // 2, -((q - 1) // 2))):
                poly = [0] * (n - 1) + [value]
                self.same(centre(Ring(n, q, root), poly)[-1], expected)
                self.same(size(Ring(n, q, root), poly), (q - 1) // 2)
                self.same(weight(Ring(n, q, root), poly), (q - 1) // 2)

    def test_all_items_count(self):
        for n, q, root in RINGS:
            for place in (0, 1, n // 2, n - 1):
                poly = [2] * n
                poly[place] = q - 5
                self.same(size(Ring(n, q, root), poly), 5)
                self.same(weight(Ring(n, q, root), poly), 2 * n + 3)

    def test_from_any_integers(self):
        chance = random.Random(1)
        for n, q, root in RINGS:
            numbers = [chance.choice((*VALUES, q, -q, 2 * q + 1, q * 10 ** 890)) for _ in range(n)]
            self.same(from_centred(Ring(n, q, root), numbers), [number % q for number in numbers])

    def test_calls(self):
        good = {"ring": RING, "poly": POLY}
        self.check_calls(centre, good, [1, 2, 0, -1, -8, 8, 0, 3])
        self.check_calls(size, good, 8)
        self.check_calls(weight, good, 23)
        numbers = [1, 2, 0, -1, -8, 8, 17, HUGE]
        expected = [1, 2, 0, 16, 9, 8, 0, HUGE % 17]
        self.check_calls(from_centred, {"ring": RING, "numbers": numbers}, expected)

    def test_refusals(self):
        for function in (centre, size, weight):
            self.check_refusals(function, {"ring": RING, "poly": POLY}, {"poly": BAD_POLY})
        self.check_refusals(from_centred, {"ring": RING, "numbers": POLY}, {"numbers": BAD_NUMBERS})


class EvaluateTest(ProgramTest):

    def test_by_the_sum(self):
        for n, q, ring, polys in rings_and_polynomials(RINGS):
            for poly in polys:
                for at in (0, 1, 2, -1, q - 1, q, q + 3, -q, -2, (q + 1) // 2, HUGE, -HUGE):
                    expected = sum(item * pow(at % q, place, q) for place, item in enumerate(poly)) % q
                    self.same(evaluate(ring, poly, at), expected)

    def test_at_zero(self):
        for poly in special_polynomials(8, 17):
            for at in (0, 17, -17, 17 * 10 ** 600):
                self.same(evaluate(RING, poly, at), poly[0])

    def test_calls(self):
        self.check_calls(evaluate, {"ring": RING, "poly": POLY, "at": -1}, 1 - 2 - 16 + 9 - 8 - 3 + 34)

    def test_refusals(self):
        bad = {"poly": BAD_POLY, "at": no_integer("at")}
        self.check_refusals(evaluate, {"ring": RING, "poly": POLY, "at": 0}, bad)


class RefusedTogetherTest(ProgramTest):

    def test_wrong_number_and_wrong_item(self):
        for poly in ([None] * 7, [-1] * 9, [17], [True] * 16):
            self.same(refusal(negate, RING, poly), ("BadLength", 8, len(poly)))
            self.same(refusal(from_centred, RING, [None, *poly]), refusal(centre, RING, [None, *poly]))

    def test_the_first_wrong_item(self):
        self.same(refusal(negate, RING, [0, 17, 0, True, 0, 0, -1, 0]), ("BadItem", 1))
        self.same(refusal(from_centred, RING, [0, 17, 0, True, 0, 0, None, 0]), ("BadItem", 3))

    def test_items_belong_to_the_ring(self):
        for n, q, root in RINGS:
            ring = Ring(n, q, root)
            self.same(refusal(negate, ring, [0] * (n - 1) + [q]), ("BadItem", n - 1))
            self.same(refusal(negate, ring, [0] * (n - 1) + [-1]), ("BadItem", n - 1))
            self.same(refusal(negate, ring, [0] * (n - 1)), ("BadLength", n, n - 1))
            self.same(refusal(shift, ring, [0] * n, 2 * n), ("OutOfRange", "exponent"))
            self.same(refusal(monomial, ring, 2 * n), ("OutOfRange", "exponent"))


if __name__ == "__main__":
    unittest.main()
