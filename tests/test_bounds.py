import itertools
import random
import unittest

from noisebound.bounds import (
    always_comes_back, always_paper, always_widths, is_always_paper, key_always, key_bound, noise_bound, noise_terms,
    room,
)
from noisebound.parameters import published, published_names, read_set_line, set_of
from noisebound.rings import Ring
from noisebound.sampling import error_vector
from tests.tools import ANY_PAPERS, HUGE, RINGS, ProgramTest, bad_list, bad_rows, bent_papers, out_of_range, refusal

SMALL = (8, 97, 33, 1, 1, 1, 7, 4)
# Sets whose noise bound is one below the room, exactly the room, and one above it.
BELOW = (
    (8, 89, 12, 1, 1, 1, 7, 4), (8, 313, 5, 1, 2, 2, 10, 4), (8, 2713, 60, 4, 3, 3, 11, 10),
    (16, 593, 82, 3, 1, 2, 11, 10), (64, 2753, 6, 2, 1, 3, 10, 5),
)
EXACT = (
    (8, 73, 10, 1, 1, 1, 7, 7), (8, 281, 60, 2, 1, 3, 10, 6), (8, 1297, 6, 2, 2, 3, 7, 11),
    (8, 2273, 465, 3, 1, 3, 6, 5), (16, 1553, 99, 4, 1, 2, 8, 10),
)
ABOVE = (
    (8, 73, 10, 1, 1, 1, 7, 5), (8, 337, 85, 2, 1, 1, 6, 6), (8, 953, 156, 1, 2, 2, 6, 3),
    (8, 2689, 653, 1, 3, 3, 6, 6), (16, 1553, 99, 3, 1, 3, 8, 4),
)
WIDTHS = tuple(itertools.product(range(1, 4), range(1, 4), range(1, 12), range(1, 12)))


def greatest_press_error(q, width):
    """The press bound, as the largest absolute value of all press errors."""
    greatest = 0
    for x in range(q):
        code = (2 ** (width + 1) * x + q) // (2 * q) % 2 ** width
        moved = (2 * q * code + 2 ** width) // 2 ** (width + 1) % q
        step = abs(moved - x)
        greatest = max(greatest, min(step, q - step))
    return greatest


def press_bound_by_rule(q, width):
    return (q + 2 ** width) // 2 ** (width + 1)


def terms_by_the_rule(n, q, root, k, sw, nw, u, v):
    return (
        k * n * sw * sw, k * n * sw * nw, k * n * sw * press_bound_by_rule(q, u), nw, press_bound_by_rule(q, v),
    )


def some_sets():
    chance = random.Random(52)
    for triple in RINGS:
        for _ in range(12):
            yield (*triple, chance.randint(1, 4), *chance.choice(WIDTHS))
        for k, widths in itertools.product((1, 4), ((1, 1, 1, 1), (3, 3, 11, 11), (1, 1, 11, 11), (3, 3, 1, 1))):
            yield (*triple, k, *widths)
    yield from (SMALL, *BELOW, *EXACT, *ABOVE)


class TermsTest(ProgramTest):

    def test_example(self):
        params = read_set_line("8 97 33 1 1 1 7 4")
        self.same([noise_terms(params), room(params)], [(8, 8, 0, 1, 3), 23])
        self.same([noise_bound(params), always_comes_back(params)], [20, True])

    def test_by_the_rule(self):
        for numbers in some_sets():
            params = set_of(numbers)
            terms = terms_by_the_rule(*numbers)
            self.same(noise_terms(params), terms)
            self.same(noise_bound(params), sum(terms))
            self.same(room(params), (numbers[1] - 1) // 4 - 1)
            self.assertIs(always_comes_back(params), sum(terms) <= (numbers[1] - 1) // 4 - 1)

    def test_by_all_press_errors(self):
        for numbers in (SMALL, (8, 17, 2, 1, 1, 1, 1, 1), (16, 97, 8, 2, 3, 2, 3, 5), (8, 257, 4, 4, 2, 3, 8, 9)):
            n, q, _, k, sw, _, u, v = numbers
            terms = noise_terms(set_of(numbers))
            self.same([terms[2], terms[4]], [k * n * sw * greatest_press_error(q, u), greatest_press_error(q, v)])

    def test_published_sets(self):
        terms = [noise_terms(published(name)) for name in published_names()]
        expected = [(4608, 3072, 3072, 2, 104), (3072, 3072, 3072, 2, 104), (4096, 4096, 2048, 2, 52)]
        self.same(terms, expected)
        for name in published_names():
            self.same([room(published(name)), always_comes_back(published(name))], [831, False])
            self.same(always_paper(published(name)), None)

    def test_around_the_room(self):
        for group, step in ((BELOW, -1), (EXACT, 0), (ABOVE, 1)):
            for numbers in group:
                params = set_of(numbers)
                self.same(noise_bound(params) - room(params), step)
                self.same(sum(terms_by_the_rule(*numbers)) - ((numbers[1] - 1) // 4 - 1), step)
                self.assertIs(always_comes_back(params), step < 1)
                self.same(always_paper(params), terms_by_the_rule(*numbers) if step < 1 else None)

    def test_calls(self):
        for function, expected in (
            (noise_terms, (8, 8, 0, 1, 3)), (noise_bound, 20), (room, 23), (always_comes_back, True),
            (always_paper, (8, 8, 0, 1, 3)),
        ):
            self.check_calls(function, {"params": set_of(SMALL)}, expected)
        self.check_calls(always_paper, {"params": set_of(ABOVE[0])}, None)

    def test_a_used_set(self):
        used = set_of(SMALL)
        for _ in range(2):
            found = [noise_terms(used), room(used), always_paper(used), key_bound(used, [[0] * 8], [[1] * 8])]
            self.same(found, [(8, 8, 0, 1, 3), 23, (8, 8, 0, 1, 3), 12])
            self.assertIs(used == set_of(SMALL), True)


class AlwaysPaperTest(ProgramTest):

    def check_paper(self, params, paper, expected):
        before = repr(paper)
        self.assertIs(is_always_paper(params, paper), expected)
        self.assertIs(is_always_paper(paper=paper, params=params), expected)
        self.same(repr(paper), before)

    def test_the_terms(self):
        for numbers in some_sets():
            params = set_of(numbers)
            terms = terms_by_the_rule(*numbers)
            self.check_paper(params, terms, sum(terms) <= room(params))

    def test_raised_terms(self):
        for numbers in (SMALL, *BELOW, *EXACT):
            params = set_of(numbers)
            terms = noise_terms(params)
            left = room(params) - noise_bound(params)
            for place in range(5):
                for step in (0, 1, left - 1, left, left + 1, left + 100, HUGE):
                    raised = list(terms)
                    raised[place] += step
                    self.check_paper(params, tuple(raised), 0 <= step <= left)
            spread = [term + left // 5 for term in terms]
            self.check_paper(params, tuple(spread), True)
            spread[4] += left % 5
            self.check_paper(params, tuple(spread), True)
            spread[1] += 1
            self.check_paper(params, tuple(spread), False)

    def test_lowered_terms(self):
        for numbers in (SMALL, *BELOW, *EXACT):
            params = set_of(numbers)
            for place in range(5):
                for step in (1, 2, 1000, HUGE):
                    for other in range(5):
                        lowered = list(noise_terms(params))
                        lowered[place] -= step
                        if other != place:
                            lowered[other] += 1
                        self.check_paper(params, tuple(lowered), False)

    def test_sets_without_a_paper(self):
        for numbers in (*ABOVE, (256, 3329, 17, 2, 3, 2, 10, 4)):
            params = set_of(numbers)
            terms = noise_terms(params)
            for paper in (terms, (0, 0, 0, 0, 0), (room(params), 0, 0, 0, 0), tuple(term - 1 for term in terms)):
                self.check_paper(params, paper, False)

    def test_bent_papers(self):
        for numbers in (SMALL, EXACT[0], BELOW[0]):
            params = set_of(numbers)
            terms = noise_terms(params)
            for paper in bent_papers(terms):
                fits = isinstance(paper, tuple) and len(paper) == 5
                fits = fits and all(value.__class__ is int for value in paper)
                fits = fits and all(value >= term for value, term in zip(paper, terms))
                self.check_paper(params, paper, fits and sum(paper) <= room(params))

    def test_other_kinds(self):
        params = set_of(SMALL)
        self.check_paper(params, (8, 8, 0, 1, 3), True)
        wrong = [[8, 8, 0, 1, 3], (8, 8, False, 1, 3), (8, 8, 0, True, 3), (8, 8, True, 1, 3), (8, 8, None, 1, 3)]
        wrong += [(8, 8, 0, 1), (8, 8, 0, 1, 3, 0), (8, 8, 0, 1, "3"), (8, 8, 0, 1, [3]), (8, 8, 0, 1, (3,)), ()]
        wrong += [((8, 8, 0, 1, 3),), (8, 8, [], 1, 3), (8, 8, "", 1, 3), ("8", "8", "0", "1", "3"), "88013"]
        for paper in wrong:
            self.check_paper(params, paper, False)

    def test_any_papers(self):
        for numbers in (SMALL, EXACT[0], ABOVE[0]):
            for paper in ANY_PAPERS:
                self.check_paper(set_of(numbers), paper, False)

    def test_calls(self):
        self.check_calls(is_always_paper, {"params": set_of(SMALL), "paper": (8, 9, 1, 1, 4)}, True)
        self.check_calls(is_always_paper, {"params": set_of(SMALL), "paper": [8, 9, 1, 1, 4]}, False)


class AlwaysWidthsTest(ProgramTest):

    def test_one_by_one(self):
        for triple in (*RINGS, (8, 97, 33), (8, 73, 10), (16, 1553, 99), (8, 2273, 465)):
            n, q, root = triple
            for k in (1, 2, 3, 4):
                expected = [
                    widths for widths in WIDTHS if sum(terms_by_the_rule(n, q, root, k, *widths)) <= (q - 1) // 4 - 1
                ]
                self.same(always_widths(Ring(*triple), k), expected)
                self.assertEqual(sorted(expected), expected)

    def test_against_the_sets(self):
        for triple, k in (((8, 97, 33), 1), ((8, 281, 60), 2)):
            found = always_widths(Ring(*triple), k)
            self.same(found, [widths for widths in WIDTHS if always_comes_back(set_of([*triple, k, *widths]))])
            self.assertIn(len(found), range(1, len(WIDTHS)))

    def test_no_widths(self):
        self.same([always_widths(Ring(8, 17, 2), k) for k in (1, 2, 3, 4)], [[], [], [], []])
        self.same(always_widths(Ring(256, 3329, 17), 2), [])

    def test_calls(self):
        expected = [(1, 1, u, v) for u in range(7, 12) for v in range(3, 12)]
        self.check_calls(always_widths, {"ring": Ring(8, 97, 33), "k": 1}, expected)

    def test_refusals(self):
        bad = {"k": out_of_range("k", 1, 4)}
        self.check_refusals(always_widths, {"ring": Ring(8, 97, 33), "k": 1}, bad)
        self.check_refusals(always_widths, {"ring": Ring(8, 97, 33), "k": 4}, bad)


class KeyBoundTest(ProgramTest):

    def bound_by_the_rule(self, numbers, secret, error):
        _, q, _, _, sw, nw, u, v = numbers
        of_secret = sum(abs(number) for row in secret for number in row)
        of_error = sum(abs(number) for row in error for number in row)
        return sw * of_error + (nw + press_bound_by_rule(q, u)) * of_secret + nw + press_bound_by_rule(q, v)

    def check_key(self, numbers, secret, error):
        params = set_of(numbers)
        expected = self.bound_by_the_rule(numbers, secret, error)
        self.same(key_bound(params, secret, error), expected)
        self.assertLessEqual(expected, noise_bound(params))
        self.assertIs(key_always(params, secret, error), expected <= (numbers[1] - 1) // 4 - 1)

    def test_zero(self):
        for numbers in some_sets():
            n, q, _, k, _, nw, _, v = numbers
            zero = [[0] * n for _ in range(k)]
            self.check_key(numbers, zero, zero)
            self.same(key_bound(set_of(numbers), zero, zero), nw + press_bound_by_rule(q, v))

    def test_ends(self):
        for numbers in some_sets():
            params = set_of(numbers)
            n, _, _, k, sw, _, _, _ = numbers
            for one, other in itertools.product((sw, -sw), repeat=2):
                secret = [[one] * n for _ in range(k)]
                error = [[other, -other] * (n // 2) for _ in range(k)]
                self.check_key(numbers, secret, error)
                self.same(key_bound(params, secret, error), noise_bound(params))

    def test_each_place(self):
        for numbers in (SMALL, (8, 281, 60, 2, 3, 2, 10, 6), (16, 97, 8, 4, 2, 3, 3, 5)):
            n, q, _, k, sw, nw, u, v = numbers
            zero = [[0] * n for _ in range(k)]
            least = nw + press_bound_by_rule(q, v)
            for row, place, value in itertools.product(range(k), range(n), {1, -1, sw, -sw}):
                vector = [list(items) for items in zero]
                vector[row][place] = value
                params = set_of(numbers)
                self.same(key_bound(params, zero, vector), sw * abs(value) + least)
                expected = (nw + press_bound_by_rule(q, u)) * abs(value) + least
                self.same(key_bound(params, vector, zero), expected)

    def test_keys_from_seeds(self):
        for numbers in (*BELOW, *EXACT, *ABOVE, *[published(name).numbers for name in published_names()]):
            n, _, _, k, sw, _, _, _ = numbers
            for seed in ([0] * 32, [255] * 32):
                secret, error = error_vector(n, sw, seed, 0, k), error_vector(n, sw, seed, k, k)
                self.check_key(numbers, secret, error)
                self.check_key(numbers, error, secret)

    def test_around_the_room(self):
        # Room 17; nw + V is 1 + 1; a number of the error counts 1, one of the secret 1 + 0.
        numbers = (8, 73, 10, 1, 1, 1, 7, 5)
        params = set_of(numbers)
        for count, expected in ((6, True), (7, True), (8, False)):
            secret = [[1] * 8]
            error = [[-1] * count + [0] * (8 - count)]
            self.same(key_bound(params, secret, error), count + 10)
            self.assertIs(key_always(params, secret, error), expected)
        self.assertIs(key_always(set_of(EXACT[0]), [[1] * 8], [[-1] * 8]), True)
        self.assertIs(always_comes_back(params), False)

    def test_calls(self):
        good = {"params": set_of(SMALL), "secret": [[1, 0, -1, 0, 0, 0, 0, 1]], "error": [[0, 0, 0, 0, 0, 0, 0, -1]]}
        self.check_calls(key_bound, good, 1 + 3 + 1 + 3)
        self.check_calls(key_always, good, True)

    def test_refusals(self):
        for numbers in (SMALL, (8, 281, 60, 2, 3, 2, 10, 6), (16, 97, 8, 4, 2, 3, 3, 5)):
            n, _, _, k, sw, _, _, _ = numbers
            row = [sw, -sw] * (n // 2)
            vector = [list(row) for _ in range(k)]
            rows = bad_list(-sw, sw, row)
            bad = {"secret": bad_rows(vector, rows), "error": bad_rows(vector, rows)}
            good = {"params": set_of(numbers), "secret": vector, "error": vector}
            self.check_refusals(key_bound, good, bad)
            self.check_refusals(key_always, good, bad)

    def test_order(self):
        params = set_of((8, 281, 60, 2, 1, 3, 10, 6))
        zero, bad = [0] * 8, [0] * 7 + [2]
        for function in (key_bound, key_always):
            self.same(refusal(function, params, [bad], [zero, zero]), ("BadLength", 2, 1))
            self.same(refusal(function, params, [bad] * 3, [zero, zero]), ("BadLength", 2, 3))
            self.same(refusal(function, params, [zero, bad], [zero]), ("BadItem", 7))
            self.same(refusal(function, params, [zero, zero], [bad, [0] * 9]), ("BadItem", 7))
            self.same(refusal(function, params, [[0] * 9, bad], [bad]), ("BadLength", 8, 9))
            self.same(refusal(function, params, [zero, zero], [zero]), ("BadLength", 2, 1))


if __name__ == "__main__":
    unittest.main()
