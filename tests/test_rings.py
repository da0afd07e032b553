import itertools
import unittest

from noisebound.rings import Ring, least_ring, ring_fault, small_rings
from tests.tools import HUGE, OTHER_KINDS, ProgramTest, no_choice, out_of_range, refusal
from tests.test_modular import DEGREES, PRIMES

NESTED = [[(1, [None, "text"]), [[]]], ([[[[[[[17]]]]]]],), "two\nlines", -17, HUGE, -HUGE]
ANY = [*OTHER_KINDS, *NESTED]

NO_DEGREES = [*ANY, 0, 1, 2, 4, 7, 9, 12, 24, 255, 257, 512, 8.0, 256.0, -8]
NO_PRIMES = [*ANY, 0, 1, 2, 4, 9, 15, 16, 17.0, 25, 4087, 4095, 4096, 4099, 17 ** 100]
NO_ROOTS = [*ANY, 0, 1, 3, 4, 5, 7, 10, 16, 17, 19, 2.0, -15]

RINGS = [(8, 17, 2), (8, 17, 15), (16, 17, 3), (8, 97, 33), (32, 97, 19), (256, 257, 3), (256, 3329, 17)]


class RingFaultTest(ProgramTest):

    def test_no_fault(self):
        for triple in RINGS:
            self.assertIsNone(ring_fault(*triple))

    def test_each_demand_alone(self):
        for n in NO_DEGREES:
            self.same(ring_fault(n, 17, 2), "n")
        for q in NO_PRIMES:
            self.same(ring_fault(8, q, 2), "q")
        for root in NO_ROOTS:
            self.same(ring_fault(8, 17, root), "root")

    def test_several_demands(self):
        for n, q, root in itertools.product(NO_DEGREES[::3], NO_PRIMES[::3], NO_ROOTS[::3]):
            self.same(ring_fault(n, q, root), "n")
            self.same(ring_fault(n, 17, root), "n")
            self.same(ring_fault(n, q, 2), "n")
            self.same(ring_fault(8, q, root), "q")

    def test_every_root_of_a_prime(self):
        for n, q in ((8, 17), (16, 17), (8, 41), (32, 97), (8, 3), (16, 41), (256, 257)):
            for root in range(-1, q + 2):
                right = 1 <= root < q and pow(root, n // 2, q) == q - 1
                self.same(ring_fault(n, q, root), None if right else "root")

    def test_primes_without_roots(self):
        for n in DEGREES:
            for q in [prime for prime in PRIMES[1:40] if prime % n != 1]:
                for root in (-1, 0, 1, 2, q - 1, q):
                    self.same(ring_fault(n, q, root), "root")

    def test_calls(self):
        self.check_calls(ring_fault, {"n": 8, "q": 17, "root": 3}, "root")
        self.check_calls(ring_fault, {"n": 8, "q": [17], "root": [3]}, "q")
        self.check_calls(ring_fault, {"n": [[8]], "q": [17], "root": 2}, "n")


class RingTest(ProgramTest):

    def test_properties(self):
        for n, q, root in RINGS:
            ring = Ring(n, q, root)
            self.same([ring.n, ring.q, ring.root, ring.triple], [n, q, root, (n, q, root)])
            self.assertEqual([2 * ring.half, 4 * ring.quarter], [q + 1, q - 1])
        self.same([Ring(8, 17, 2).half, Ring(8, 17, 2).quarter], [9, 4])
        self.same([Ring(256, 3329, 17).half, Ring(256, 3329, 17).quarter], [1665, 832])

    def test_parameters(self):
        for ring in (Ring(8, 17, 2), Ring(8, 17, root=2), Ring(root=2, q=17, n=8)):
            self.same(ring.triple, (8, 17, 2))

    def test_refusals(self):
        bad = {
            "n": [(value, ("BadRing", "n")) for value in NO_DEGREES],
            "q": [(value, ("BadRing", "q")) for value in NO_PRIMES],
            "root": [(value, ("BadRing", "root")) for value in NO_ROOTS],
        }
        self.check_refusals(Ring, {"n": 8, "q": 17, "root": 2}, bad)
        self.same(refusal(Ring, 16, 41, 3), ("BadRing", "root"))

    def test_equal_rings(self):
        for triple in RINGS:
            first, second = Ring(*triple), Ring(*triple)
            self.assertIs(first == second, True)
            self.assertIs(first != second, False)
            self.assertIs(first == first, True)

    def test_other_rings(self):
        for one, other in itertools.permutations(RINGS, 2):
            self.assertIs(Ring(*one) == Ring(*other), False)
            self.assertIs(Ring(*one) != Ring(*other), True)

    def test_rings_that_differ_in_one_number(self):
        self.assertIs(Ring(8, 17, 2) == Ring(8, 17, 8), False)
        pairs = [((8, 17, 2), (8, 17, 9)), ((8, 17, 9), (8, 73, 10)), ((8, 41, 3), (8, 73, 10))]
        for one, other in pairs:
            self.assertIs(Ring(*one) == Ring(*other), False)
            self.assertIs(Ring(*one) != Ring(*other), True)

    def test_values_of_another_kind(self):
        ring = Ring(8, 17, 2)
        for value in (*ANY, (8, 17, 2), [8, 17, 2], 8, 17, 2, "8 17 2", object()):
            self.assertIs(ring == value, False)
            self.assertIs(value == ring, False)
            self.assertIs(ring != value, True)
            self.assertIs(value != ring, True)

    def test_reading_changes_nothing(self):
        ring = Ring(8, 17, 2)
        for _ in range(2):
            self.same([ring.n, ring.q, ring.root, ring.half, ring.quarter], [8, 17, 2, 9, 4])
            self.assertIs(ring == Ring(8, 17, 2), True)


class SmallRingsTest(ProgramTest):

    def test_by_the_definition(self):
        for n in DEGREES:
            for below in (3, 4, 17, 18, 41, 42, 257, 258, 500, 998, 1000):
                expected = []
                for q in [prime for prime in PRIMES[1:] if prime < below]:
                    roots = [root for root in range(1, q) if pow(root, n // 2, q) == q - 1]
                    expected += [(n, q, root) for root in roots[:1]]
                self.same(small_rings(n, below), expected)

    def test_edges(self):
        for n in DEGREES:
            self.same(small_rings(n, 3), [])
        self.same(small_rings(8, 17), [])
        self.same(small_rings(8, 18), [(8, 17, 2)])
        self.same(small_rings(256, 1000), [(256, 257, 3), (256, 769, 7)])
        self.same(small_rings(8, 1000)[-1], (8, 977, 227))

    def test_calls(self):
        self.check_calls(small_rings, {"n": 16, "below": 100}, [(16, 17, 3), (16, 97, 8)])
        self.check_calls(small_rings, {"n": 16, "below": 3}, [])

    def test_refusals(self):
        bad = {"n": no_choice("n", DEGREES), "below": out_of_range("below", 3, 1000)}
        self.check_refusals(small_rings, {"n": 8, "below": 3}, bad)
        self.check_refusals(small_rings, {"n": 256, "below": 1000}, bad)


class LeastRingTest(ProgramTest):

    def test_least_root(self):
        for n in DEGREES:
            for q in [prime for prime in PRIMES if prime % n == 1]:
                expected = next(root for root in range(1, q) if pow(root, n // 2, q) == q - 1)
                self.same(least_ring(n, q).triple, (n, q, expected))
        self.assertIs(least_ring(256, 3329) == Ring(256, 3329, 17), True)
        self.assertIsInstance(least_ring(8, 17), Ring)

    def test_no_root(self):
        for n in DEGREES:
            for q in [prime for prime in PRIMES[1:60] if prime % n != 1]:
                self.same(refusal(least_ring, n, q), ("BadRing", "root"))

    def test_refusals(self):
        bad = {
            "n": [(value, ("BadRing", "n")) for value in NO_DEGREES],
            "q": [(value, ("BadRing", "q")) for value in NO_PRIMES],
        }
        self.check_refusals(least_ring, {"n": 8, "q": 17}, bad)
        self.check_refusals(least_ring, {"q": 17, "n": 8}, {"q": [(15, ("BadRing", "q"))]})

    def test_two_rings_do_not_influence_each_other(self):
        first = least_ring(n=8, q=17)
        second = least_ring(q=97, n=16)
        self.same([first.triple, second.triple], [(8, 17, 2), (16, 97, 8)])


if __name__ == "__main__":
    unittest.main()
