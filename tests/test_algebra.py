import itertools
import operator
import unittest

from noisebound.algebra import Element
from noisebound.rings import Ring
from tests.tools import (
    HUGE, OTHER_KINDS, RINGS, SMALL_RINGS, ProgramTest, bad_list, centred_form, product_by_sum, refusal,
    special_polynomials, wrong_integers,
)

RING = Ring(8, 17, 2)
POLY = [1, 2, 0, 16, 9, 8, 0, 3]
OTHER = [16, 0, 5, 8, 9, 1, 2, 15]
FACTORS = (0, 1, -1, 2, 16, 17, -17, -35, 17 * 10 ** 800 + 4, HUGE, -HUGE)


def some_elements(triples):
    for n, q, root in triples:
        ring = Ring(n, q, root)
        for poly in special_polynomials(n, q):
            yield n, q, poly, Element(ring, poly)


def pairs_of_elements(triples):
    for n, q, root in triples:
        ring = Ring(n, q, root)
        for one, other in itertools.product(special_polynomials(n, q), repeat=2):
            yield n, q, one, other, Element(ring, one), Element(ring, other)


class NewElementTest(ProgramTest):

    def test_properties(self):
        for n, q, poly, element in some_elements(RINGS):
            row = [abs(centred_form(item, q)) for item in poly]
            self.same(element.coefficients(), poly)
            self.same([element.size, element.weight, len(element)], [max(row), sum(row), n])
            self.assertIsInstance(element.ring, Ring)
            self.same([element.ring.n, element.ring.q], [n, q])

    def test_ring(self):
        for triple in RINGS:
            element = Element(Ring(*triple), [0] * triple[0])
            self.assertIs(element.ring == Ring(*triple), True)
            self.same(element.ring.triple, triple)

    def test_parameters(self):
        for element in (Element(RING, POLY), Element(RING, poly=POLY), Element(poly=POLY, ring=RING)):
            self.same(element.coefficients(), POLY)

    def test_refusals(self):
        bad = {"poly": bad_list(0, 16, POLY)}
        self.check_refusals(Element, {"ring": RING, "poly": POLY}, bad)
        for n, q, root in RINGS:
            self.same(refusal(Element, Ring(n, q, root), [0] * (n - 1) + [q]), ("BadItem", n - 1))
            self.same(refusal(Element, Ring(n, q, root), [q] * (n + 1)), ("BadLength", n, n + 1))

    def test_copies(self):
        poly = list(POLY)
        element = Element(RING, poly)
        doubled = element + element
        poly[0] = 5
        poly.append(6)
        self.same(element.coefficients(), POLY)
        element.coefficients()[0] = 7
        answer = element.coefficients()
        answer.append(8)
        self.same(element.coefficients(), POLY)
        self.same([element[0], len(element), list(element)], [1, 8, POLY])
        doubled.coefficients()[1] = 9
        self.same(doubled.coefficients(), [2 * item % 17 for item in POLY])
        self.same(element.coefficients(), POLY)


class OperatorTest(ProgramTest):

    def check_element(self, found, triple, poly):
        self.assertIs(found.__class__, Element)
        self.same(found.ring.triple, triple)
        self.same(found.coefficients(), poly)

    def test_sums(self):
        for n, q, one, other, first, second in pairs_of_elements(RINGS):
            self.check_element(first + second, first.ring.triple, [(a + b) % q for a, b in zip(one, other)])
            self.check_element(first - second, first.ring.triple, [(a - b) % q for a, b in zip(one, other)])

    def test_products(self):
        for n, q, one, other, first, second in pairs_of_elements(SMALL_RINGS):
            self.check_element(first * second, first.ring.triple, product_by_sum(n, q, one, other))

    def test_products_in_great_rings(self):
        for n, q, root in ((128, 3457, 63), (256, 257, 254), (256, 3329, 17)):
            polys = special_polynomials(n, q)
            for one, other in ((polys[-1], polys[3]), (polys[-1], polys[-1]), (polys[2], polys[-1])):
                product = Element(Ring(n, q, root), one) * Element(Ring(n, q, root), other)
                self.check_element(product, (n, q, root), product_by_sum(n, q, one, other))

    def test_negative(self):
        for n, q, poly, element in some_elements(RINGS):
            self.check_element(-element, element.ring.triple, [-item % q for item in poly])
            self.check_element(element + -element, element.ring.triple, [0] * n)

    def test_integer_factors(self):
        for n, q, poly, element in some_elements(RINGS):
            for factor in (*FACTORS, q, q - 1, q + 1):
                expected = [item * factor % q for item in poly]
                self.check_element(element * factor, element.ring.triple, expected)
                self.check_element(factor * element, element.ring.triple, expected)

    def test_powers(self):
        for n, q, poly, element in some_elements(((8, 17, 2), (16, 4049, 276), (32, 97, 19))):
            expected = [1] + [0] * (n - 1)
            for exponent in range(65):
                self.check_element(element ** exponent, element.ring.triple, expected)
                expected = product_by_sum(n, q, expected, poly)

    def test_powers_in_great_rings(self):
        for n, q, poly, element in some_elements(RINGS[-8:]):
            self.check_element(element ** 0, element.ring.triple, [1] + [0] * (n - 1))
            self.check_element(element ** 1, element.ring.triple, poly)
            self.same((element ** 64).coefficients(), (element ** 63 * element).coefficients())

    def test_exponents(self):
        element = Element(RING, POLY)
        wrong = [*wrong_integers(0, 64), element, Element(RING, [2, 0, 0, 0, 0, 0, 0, 0]), RING, slice(1, 2), 2.0]
        for exponent in wrong:
            self.same(refusal(operator.pow, element, exponent), ("OutOfRange", "exponent"))
        self.same(element.coefficients(), POLY)

    def test_unequal_rings(self):
        first = Element(RING, POLY)
        for triple in ((8, 17, 8), (8, 41, 3), (16, 17, 3), (256, 3329, 17)):
            second = Element(Ring(*triple), [1] * triple[0])
            for sign in (operator.add, operator.sub, operator.mul):
                self.same(refusal(sign, first, second), ("DifferentRings",))
                self.same(refusal(sign, second, first), ("DifferentRings",))
        self.same(first.coefficients(), POLY)

    def test_equal_rings_that_are_two_objects(self):
        first, second = Element(Ring(8, 17, 2), POLY), Element(Ring(8, 17, 2), OTHER)
        self.check_element(first + second, (8, 17, 2), [0, 2, 5, 7, 1, 9, 2, 1])
        self.check_element(first - second, (8, 17, 2), [2, 2, 12, 8, 0, 7, 15, 5])
        self.check_element(first * second, (8, 17, 2), product_by_sum(8, 17, POLY, OTHER))

    def test_operands_stay(self):
        first, second = Element(RING, POLY), Element(RING, OTHER)
        results = [first + second, first - second, first * second, -first, 3 * first, first * 3, first ** 1, first ** 0]
        for result in results:
            result.coefficients()[0] = "spoiled"
        self.same([first.coefficients(), second.coefficients()], [POLY, OTHER])
        self.same([list(first), list(second), first.size, first.weight], [POLY, OTHER, 8, 23])
        total = first
        total += second
        self.same([first.coefficients(), total.coefficients()], [POLY, [0, 2, 5, 7, 1, 9, 2, 1]])


class EqualTest(ProgramTest):

    def check_equal(self, one, other, expected):
        self.assertIs(one == other, expected)
        self.assertIs(other == one, expected)
        self.assertIs(one != other, not expected)
        self.assertIs(other != one, not expected)

    def test_elements(self):
        for n, q, one, other, first, second in pairs_of_elements(RINGS):
            self.check_equal(first, second, one == other)
            self.check_equal(first, first, True)

    def test_one_item(self):
        for place in range(8):
            changed = list(POLY)
            changed[place] = (changed[place] + 1) % 17
            self.check_equal(Element(RING, POLY), Element(RING, changed), False)
        self.check_equal(Element(Ring(8, 17, 2), POLY), Element(Ring(8, 17, 2), list(POLY)), True)

    def test_unequal_rings(self):
        for triple in ((8, 17, 8), (8, 41, 3)):
            self.check_equal(Element(RING, POLY), Element(Ring(*triple), POLY), False)
        self.check_equal(Element(RING, [0] * 8), Element(Ring(16, 17, 3), [0] * 16), False)

    def test_values_of_another_kind(self):
        element = Element(RING, [5, 0, 0, 0, 0, 0, 0, 0])
        for value in (*OTHER_KINDS, RING, [5, 0, 0, 0, 0, 0, 0, 0], 5, "5", None, tuple(element), Element, object()):
            self.check_equal(element, value, False)


class ItemTest(ProgramTest):

    def test_indexes(self):
        for n, q, poly, element in some_elements(RINGS):
            self.same([element[place] for place in range(n)], poly)
            for place in (-1, n, -n, 2 * n):
                self.same(refusal(operator.getitem, element, place), ("OutOfRange", "index"))

    def test_wrong_indexes(self):
        element = Element(RING, POLY)
        wrong = [*wrong_integers(0, 7), element, Element(RING, [1] + [0] * 7), RING, 1.0]
        wrong += [slice(0, 2), slice(None), slice(None, None, -1), (0, 1)]
        for value in wrong:
            self.same(refusal(operator.getitem, element, value), ("OutOfRange", "index"))
        self.same(element.coefficients(), POLY)

    def test_length(self):
        for triple in RINGS:
            self.same(len(Element(Ring(*triple), [0] * triple[0])), triple[0])

    def test_iteration(self):
        for n, q, poly, element in some_elements(RINGS):
            self.same(list(element), poly)
            self.same(list(element), poly)
            self.same(sum(element), sum(poly))
            self.assertIs(poly[-1] in element, True)
            self.assertIs(q in element, False)

    def test_two_iterations_one_in_the_other(self):
        element = Element(RING, POLY)
        self.same([(a, b) for a in element for b in element], [(a, b) for a in POLY for b in POLY])
        once, again = iter(element), iter(element)
        found = [next(once), next(once), next(again), next(once)]
        self.same(found, [1, 2, 1, 0])

    def test_iteration_broken_off(self):
        element = Element(RING, POLY)
        for item in element:
            break
        self.same(item, 1)
        self.same(list(element), POLY)


class ReadingTest(ProgramTest):

    def test_reading_changes_nothing(self):
        element = Element(RING, POLY)
        for _ in range(2):
            self.same([element.size, element.weight, len(element), element.ring.triple], [8, 23, 8, (8, 17, 2)])
            self.same([element.coefficients(), element[7], list(element)], [POLY, 3, POLY])
            self.assertIs(element == Element(RING, POLY), True)

    def test_refused_calls_change_nothing(self):
        element = Element(RING, POLY)
        other = Element(Ring(8, 17, 8), OTHER)
        for sign, value in ((operator.add, other), (operator.pow, 65), (operator.getitem, 8), (operator.mul, other)):
            refusal(sign, element, value)
            self.same([element.coefficients(), other.coefficients()], [POLY, OTHER])


if __name__ == "__main__":
    unittest.main()
