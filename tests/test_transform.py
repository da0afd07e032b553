import itertools
import random
import unittest

from noisebound.polynomials import add, constant, multiply_plain
from noisebound.rings import Ring
from noisebound.transform import (
    factor_exponent, factor_root, from_spectrum, join_layer, multiply_fast, multiply_spectra, pair_product, pairs_of,
    rebuild_plain, remainder_pair, spectrum_of_pairs, split_layer, to_spectrum,
)
from tests.tools import (
    RINGS, SMALL_RINGS, ProgramTest, bad_items, bad_list, no_choice, out_of_range, product_by_sum, refusal,
    special_polynomials,
)

RING = Ring(8, 17, 2)
POLY = [1, 2, 0, 16, 9, 8, 0, 3]
OTHER = [16, 0, 5, 8, 9, 1, 2, 15]
BAD_POLY = bad_list(0, 16, POLY)
BAD_PAIRS = [((), ("BadLength", 2, 0)), ((1,), ("BadLength", 2, 1)), ((17, None, True), ("BadLength", 2, 3))]
BAD_PAIRS += [(tuple(pair), told) for pair, told in bad_items(0, 16, [1, 16])]


def exponent_of(n, index):
    """2 * r + 1, with the bits turned around as a text."""
    count = len(bin(n // 2)) - 3
    return 2 * int(f"{index:0{count}b}"[::-1], 2) + 1


def root_of(n, q, root, index):
    return pow(root, exponent_of(n, index), q)


def remainder_by_division(poly, g, q):
    """The remainder modulo X^2 - g, by taking off the highest power again and again."""
    left = list(poly)
    while len(left) > 2:
        top = left.pop()
        left[-2] = (left[-2] + top * g) % q
    return tuple(left)


def spectrum_by_division(n, q, root, poly):
    pairs = [remainder_by_division(poly, root_of(n, q, root, index), q) for index in range(n // 2)]
    return [item for pair in pairs for item in pair]


def lengths_of(n):
    return [length for length in (128, 64, 32, 16, 8, 4, 2) if length <= n // 2]


def split_by_the_rule(n, q, root, values, length):
    """One layer, written as the document tells it."""
    items = list(values)
    count = len(bin(n // 2)) - 3
    for block in range(n // (2 * length)):
        m = n // (2 * length) + block
        z = pow(root, int(f"{m:0{count}b}"[::-1], 2), q)
        for j in range(2 * length * block, 2 * length * block + length):
            x, y = items[j], items[j + length]
            items[j], items[j + length] = (x + z * y) % q, (x - z * y) % q
    return items


class FactorTest(ProgramTest):

    def test_exponents(self):
        for n, q, root in RINGS:
            ring = Ring(n, q, root)
            exponents = [factor_exponent(ring, index) for index in range(n // 2)]
            self.same(exponents, [exponent_of(n, index) for index in range(n // 2)])
            self.same(sorted(exponents), list(range(1, n, 2)))

    def test_small_degrees(self):
        self.same([factor_exponent(RING, index) for index in range(4)], [1, 5, 3, 7])
        self.same([factor_root(RING, index) for index in range(4)], [2, 15, 8, 9])
        ring = Ring(16, 17, 3)
        self.same([factor_exponent(ring, index) for index in range(8)], [1, 9, 5, 13, 3, 11, 7, 15])

    def test_roots(self):
        for n, q, root in RINGS:
            ring = Ring(n, q, root)
            roots = [factor_root(ring, index) for index in range(n // 2)]
            self.same(roots, [root_of(n, q, root, index) for index in range(n // 2)])
            self.same(sorted(roots), [value for value in range(q) if pow(value, n // 2, q) == q - 1])

    def test_published_numbers(self):
        # The first and the last ones as the table of the standard has them.
        ring = Ring(256, 3329, 17)
        self.same([factor_root(ring, index) for index in (0, 1, 2, 3, 126, 127)], [17, 3312, 2761, 568, 2154, 1175])

    def test_calls(self):
        self.check_calls(factor_exponent, {"ring": RING, "index": 1}, 5)
        self.check_calls(factor_root, {"ring": RING, "index": 1}, 15)

    def test_refusals(self):
        for function in (factor_exponent, factor_root):
            bad = {"index": out_of_range("index", 0, 3)}
            self.check_refusals(function, {"ring": RING, "index": 3}, bad)
            bad = {"index": out_of_range("index", 0, 127)}
            self.check_refusals(function, {"ring": Ring(256, 3329, 17), "index": 0}, bad)


class SpectrumTest(ProgramTest):

    def test_example(self):
        self.same(to_spectrum(Ring(8, 17, 2), [0, 0, 1, 0, 0, 0, 0, 0]), [2, 0, 15, 0, 8, 0, 9, 0])

    def test_by_division(self):
        for n, q, root in RINGS:
            ring = Ring(n, q, root)
            for poly in special_polynomials(n, q):
                self.same(to_spectrum(ring, poly), spectrum_by_division(n, q, root, poly))

    def test_remainder_pairs(self):
        for n, q, root in RINGS:
            ring = Ring(n, q, root)
            for poly in special_polynomials(n, q)[1::5]:
                for index in range(n // 2):
                    expected = remainder_by_division(poly, root_of(n, q, root, index), q)
                    self.same(remainder_pair(ring, poly, index), expected)

    def test_monomials(self):
        for n, q, root in SMALL_RINGS:
            for place in range(n):
                poly = [0] * n
                poly[place] = 1
                self.same(to_spectrum(Ring(n, q, root), poly), spectrum_by_division(n, q, root, poly))

    def test_there_and_back(self):
        for n, q, root in RINGS:
            ring = Ring(n, q, root)
            for values in special_polynomials(n, q):
                self.same(from_spectrum(ring, to_spectrum(ring, values)), values)
                self.same(to_spectrum(ring, from_spectrum(ring, values)), values)

    def test_rebuilding(self):
        for n, q, root in RINGS:
            ring = Ring(n, q, root)
            for values in special_polynomials(n, q):
                self.same(rebuild_plain(ring, to_spectrum(ring, values)), values)
                self.same(to_spectrum(ring, rebuild_plain(ring, values)), values)
                self.same(rebuild_plain(ring, values), from_spectrum(ring, values))

    def test_rebuilding_by_the_sum(self):
        for n, q, root in SMALL_RINGS:
            w = pow(n // 2, -1, q)
            inverses = [pow(root_of(n, q, root, index), -1, q) for index in range(n // 2)]
            for values in special_polynomials(n, q):
                poly = []
                for j in range(n // 2):
                    for part in (values[0::2], values[1::2]):
                        poly.append(w * sum(a * pow(g, j, q) for a, g in zip(part, inverses)) % q)
                self.same(rebuild_plain(Ring(n, q, root), values), poly)
                self.same(from_spectrum(Ring(n, q, root), values), poly)

    def test_another_root_gives_another_spectrum(self):
        poly = special_polynomials(8, 17)[-1]
        spectra = [to_spectrum(Ring(8, 17, root), poly) for root in (2, 8, 9, 15)]
        for one, other in itertools.combinations(spectra, 2):
            self.assertNotEqual(one, other)

    def test_sums(self):
        for n, q, root in RINGS:
            ring = Ring(n, q, root)
            for one, other in itertools.combinations(special_polynomials(n, q), 2):
                total = add(ring, to_spectrum(ring, one), to_spectrum(ring, other))
                self.same(to_spectrum(ring, add(ring, one, other)), total)

    def test_calls(self):
        spectrum = spectrum_by_division(8, 17, 2, POLY)
        self.check_calls(to_spectrum, {"ring": RING, "poly": POLY}, spectrum)
        self.check_calls(from_spectrum, {"ring": RING, "spectrum": spectrum}, POLY)
        self.check_calls(rebuild_plain, {"ring": RING, "spectrum": spectrum}, POLY)
        good = {"ring": RING, "poly": POLY, "index": 2}
        self.check_calls(remainder_pair, good, (spectrum[4], spectrum[5]))

    def test_a_used_ring(self):
        used = Ring(16, 17, 3)
        poly = special_polynomials(16, 17)[-1]
        first = to_spectrum(used, poly)
        from_spectrum(used, first)
        multiply_fast(used, poly, poly)
        self.same(to_spectrum(used, poly), first)
        self.same(to_spectrum(Ring(16, 17, 3), poly), first)
        self.same(to_spectrum(Ring(16, 17, 14), poly), spectrum_by_division(16, 17, 14, poly))
        self.same(to_spectrum(used, poly), first)

    def test_refusals(self):
        self.check_refusals(to_spectrum, {"ring": RING, "poly": POLY}, {"poly": BAD_POLY})
        for function in (from_spectrum, rebuild_plain, pairs_of):
            self.check_refusals(function, {"ring": RING, "spectrum": POLY}, {"spectrum": BAD_POLY})
        bad = {"poly": BAD_POLY, "index": out_of_range("index", 0, 3)}
        self.check_refusals(remainder_pair, {"ring": RING, "poly": POLY, "index": 0}, bad)


class LayerTest(ProgramTest):

    def test_by_the_rule(self):
        for n, q, root in RINGS:
            ring = Ring(n, q, root)
            for values in special_polynomials(n, q):
                for length in lengths_of(n):
                    self.same(split_layer(ring, values, length), split_by_the_rule(n, q, root, values, length))

    def test_joining_undoes_splitting(self):
        for n, q, root in RINGS:
            ring = Ring(n, q, root)
            for values in special_polynomials(n, q):
                for length in lengths_of(n):
                    self.same(join_layer(ring, split_layer(ring, values, length), length), values)
                    self.same(split_layer(ring, join_layer(ring, values, length), length), values)

    def test_all_layers(self):
        for n, q, root in RINGS:
            ring = Ring(n, q, root)
            poly = special_polynomials(n, q)[-1]
            values = poly
            for length in lengths_of(n):
                values = split_layer(ring, values, length)
            self.same(values, to_spectrum(ring, poly))
            for length in reversed(lengths_of(n)):
                values = join_layer(ring, values, length)
            self.same(values, poly)

    def test_calls(self):
        good = {"ring": RING, "values": POLY, "length": 2}
        self.check_calls(split_layer, good, split_by_the_rule(8, 17, 2, POLY, 2))
        good = {"ring": RING, "values": split_by_the_rule(8, 17, 2, POLY, 4), "length": 4}
        self.check_calls(join_layer, good, POLY)

    def test_refusals(self):
        for n, q, root in ((8, 17, 2), (32, 97, 19), (256, 257, 3)):
            values = [q - 1] * n
            bad = {
                "values": bad_list(0, q - 1, values),
                "length": no_choice("length", lengths_of(n)) + [
                    (wrong, ("OutOfRange", "length")) for wrong in (0, 1, 3, 6, n, 2 * n, n // 2 + 1, [2], -2, 2.0)
                ],
            }
            for function in (split_layer, join_layer):
                self.check_refusals(function, {"ring": Ring(n, q, root), "values": values, "length": 2}, bad)


class PairTest(ProgramTest):

    def test_pairs_of(self):
        for n, q, root in RINGS:
            ring = Ring(n, q, root)
            for values in special_polynomials(n, q):
                pairs = [(values[2 * index], values[2 * index + 1]) for index in range(n // 2)]
                self.same(pairs_of(ring, values), pairs)
                self.same(spectrum_of_pairs(ring, pairs), values)

    def test_pairs_are_remainder_pairs(self):
        for n, q, root in SMALL_RINGS:
            ring = Ring(n, q, root)
            poly = special_polynomials(n, q)[-1]
            pairs = [remainder_pair(ring, poly, index) for index in range(n // 2)]
            self.same(pairs_of(ring, to_spectrum(ring, poly)), pairs)

    def test_pair_products(self):
        chance = random.Random(3)
        for n, q, root in RINGS:
            ring = Ring(n, q, root)
            for index in {0, 1, n // 4, n // 2 - 1}:
                for _ in range(20):
                    a, b, c, d = [chance.choice((0, 1, q - 1, chance.randrange(q))) for _ in range(4)]
                    g = root_of(n, q, root, index)
                    expected = ((a * c + b * d * g) % q, (a * d + b * c) % q)
                    self.same(pair_product(ring, index, (a, b), (c, d)), expected)
                    self.same(pair_product(ring, index, (c, d), (a, b)), expected)
                    self.same(pair_product(ring, index, (a, b), (1, 0)), (a, b))

    def test_calls(self):
        good = {"ring": RING, "index": 1, "first": (2, 3), "second": (16, 5)}
        self.check_calls(pair_product, good, ((32 + 15 * 15) % 17, (10 + 48) % 17))
        pairs = [(1, 2), (0, 16), (9, 8), (0, 3)]
        self.check_calls(pairs_of, {"ring": RING, "spectrum": POLY}, pairs)
        self.check_calls(spectrum_of_pairs, {"ring": RING, "pairs": pairs}, POLY)

    def test_refusals_of_products(self):
        bad = {"index": out_of_range("index", 0, 3), "first": BAD_PAIRS, "second": BAD_PAIRS}
        self.check_refusals(pair_product, {"ring": RING, "index": 3, "first": (0, 16), "second": (16, 0)}, bad)

    def test_refusals_of_lists(self):
        good = [(1, 2), (0, 16), (9, 8), (0, 3)]
        bad = [([], ("BadLength", 4, 0)), (good[:3], ("BadLength", 4, 3)), (good * 2, ("BadLength", 4, 8))]
        bad += [([(17, 17, 17)] * 5, ("BadLength", 4, 5)), ([()], ("BadLength", 4, 1))]
        for place in range(4):
            for pair, told in BAD_PAIRS:
                changed = list(good)
                changed[place] = pair
                bad.append((changed, told))
        # A pair is checked whole before the next one.
        bad.append(([(1, 17), (1,), (17, 1), ()], ("BadItem", 1)))
        bad.append(([(1, 2), (1,), (17, 1), ()], ("BadLength", 2, 1)))
        self.check_refusals(spectrum_of_pairs, {"ring": RING, "pairs": good}, {"pairs": bad})


class ProductTest(ProgramTest):

    def test_plain_products(self):
        for n, q, root in SMALL_RINGS:
            ring = Ring(n, q, root)
            for one, other in itertools.product(special_polynomials(n, q), repeat=2):
                expected = product_by_sum(n, q, one, other)
                self.same(multiply_fast(ring, one, other), expected)
                spectra = multiply_spectra(ring, to_spectrum(ring, one), to_spectrum(ring, other))
                self.same(spectra, to_spectrum(ring, expected))
                self.same(from_spectrum(ring, spectra), expected)

    def test_great_rings(self):
        for n, q, root in RINGS:
            ring = Ring(n, q, root)
            for one, other in itertools.combinations_with_replacement(special_polynomials(n, q)[2::2], 2):
                self.same(multiply_fast(ring, one, other), multiply_plain(ring, one, other))

    def test_pair_by_pair(self):
        for n, q, root in RINGS:
            ring = Ring(n, q, root)
            for one, other in itertools.combinations(special_polynomials(n, q)[3:], 2):
                products = [
                    pair_product(ring, index, first, second)
                    for index, (first, second) in enumerate(zip(pairs_of(ring, one), pairs_of(ring, other)))
                ]
                self.same(multiply_spectra(ring, one, other), spectrum_of_pairs(ring, products))

    def test_facts(self):
        for n, q, root in RINGS:
            ring = Ring(n, q, root)
            one = to_spectrum(ring, constant(ring, 1))
            self.same(one, [1, 0] * (n // 2))
            polys = special_polynomials(n, q)
            for poly in polys:
                self.same(multiply_fast(ring, poly, constant(ring, 1)), poly)
                self.same(multiply_spectra(ring, poly, one), poly)
                self.same(multiply_fast(ring, poly, polys[-1]), multiply_fast(ring, polys[-1], poly))

    def test_calls(self):
        good = {"ring": RING, "first": POLY, "second": OTHER}
        self.check_calls(multiply_fast, good, product_by_sum(8, 17, POLY, OTHER))
        self.check_calls(multiply_spectra, good, multiply_spectra(RING, list(OTHER), list(POLY)))

    def test_refusals(self):
        for function in (multiply_fast, multiply_spectra):
            bad = {"first": BAD_POLY, "second": BAD_POLY}
            self.check_refusals(function, {"ring": RING, "first": POLY, "second": OTHER}, bad)
        for n, q, root in RINGS:
            self.same(refusal(multiply_fast, Ring(n, q, root), [0] * n, [0] * (n - 1) + [q]), ("BadItem", n - 1))


if __name__ == "__main__":
    unittest.main()
