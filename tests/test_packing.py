import random
import unittest

from noisebound.octets import bits_of
from noisebound.packing import first_not_below, pack, pack_vector, unpack, unpack_vector
from noisebound.rings import Ring
from tests.tools import (
    BAD_BYTES, HUGE, OTHER_KINDS, RINGS, ProgramTest, bad_items, bad_list, bad_vector, no_integer, out_of_range,
    refusal, special_polynomials,
)

RING = Ring(8, 17, 2)
POLY = [1, 2, 0, 16, 9, 8, 0, 3]
WIDTHS = range(1, 13)
BAD_WIDTH = out_of_range("width", 1, 12)


def bytes_by_text(width, numbers):
    """The packed bytes, by writing all bits as one text."""
    bits = "".join(f"{number:0{width}b}"[::-1] for number in numbers)
    return [int(bits[start:start + 8][::-1], 2) for start in range(0, len(bits), 8)]


def some_lists(width):
    chance = random.Random(width)
    greatest = 2 ** width - 1
    yield []
    yield [0] * 8
    yield [greatest] * 8
    yield [0, greatest] * 4
    yield [greatest, 0] * 8
    for place in range(16):
        yield [greatest if place == other else 0 for other in range(16)]
        yield [0 if place == other else greatest for other in range(16)]
        yield [1 if place == other else 0 for other in range(16)]
    for count in (8, 16, 24, 104, 1600):
        yield [chance.randint(0, greatest) for _ in range(count)]


class PackTest(ProgramTest):

    def test_example(self):
        self.same(pack(3, [1, 2, 3, 4, 5, 6, 7, 0]), [209, 88, 31])

    def test_every_width(self):
        for width in WIDTHS:
            for numbers in some_lists(width):
                data = bytes_by_text(width, numbers)
                self.same(pack(width, numbers), data)
                self.same(unpack(width, data), numbers)
                self.assertEqual(len(data) * 8, width * len(numbers))

    def test_bits(self):
        for width in WIDTHS:
            numbers = list(some_lists(width))[-3]
            bits = bits_of(pack(width, numbers))
            for i, number in enumerate(numbers):
                for j in range(width):
                    self.same(bits[width * i + j], number // 2 ** j % 2)

    def test_any_bytes(self):
        chance = random.Random(12)
        for width in WIDTHS:
            for count in (0, 1, 2, 13):
                many = width * count
                for data in ([0] * many, [255] * many, [chance.randrange(256) for _ in range(many)]):
                    self.same(pack(width, unpack(width, data)), data)

    def test_width_1_and_8(self):
        data = [0, 1, 2, 128, 255, 77]
        self.same(unpack(1, data), bits_of(data))
        self.same(unpack(8, data + [3, 4]), data + [3, 4])
        self.same(pack(8, data + [3, 4]), data + [3, 4])

    def test_empty_list(self):
        for width in WIDTHS:
            self.same([pack(width, []), unpack(width, [])], [[], []])

    def test_great_lists(self):
        numbers = [4095, 0, 1, 2048] * 10000
        self.same(unpack(12, pack(12, numbers)), numbers)
        self.same(unpack(1, [255, 0] * 10000), ([1] * 8 + [0] * 8) * 10000)

    def test_calls(self):
        self.check_calls(pack, {"width": 3, "numbers": [1, 2, 3, 4, 5, 6, 7, 0]}, [209, 88, 31])
        self.check_calls(unpack, {"width": 3, "data": [209, 88, 31]}, [1, 2, 3, 4, 5, 6, 7, 0])
        self.check_calls(pack, {"width": 12, "numbers": []}, [])

    def test_numbers_of_items(self):
        for count in (*range(1, 18), 1001):
            for item in (0, None, -1, 2 ** 12, True):
                expected = next(many for many in range(count, count + 8) if many % 8 == 0)
                found = refusal(pack, 12, [item] * count)
                if expected != count:
                    self.same(found, ("BadLength", expected, count))
                else:
                    self.same(found[0], "answer" if item == 0 else "BadItem")

    def test_numbers_of_bytes(self):
        for width in WIDTHS:
            for count in (*range(1, 26), 997):
                for item in (0, None, -1, 256, True):
                    expected = next(many for many in range(count, count + width) if many % width == 0)
                    found = refusal(unpack, width, [item] * count)
                    if expected != count:
                        self.same(found, ("BadLength", expected, count))
                    else:
                        self.same(found[0], "answer" if item == 0 else "BadItem")

    def test_refusals(self):
        for width in WIDTHS:
            greatest = 2 ** width - 1
            numbers = [0, greatest] * 8
            bad = bad_items(0, greatest, numbers)
            bad += [([greatest + 1] * 9, ("BadLength", 16, 9)), ([None] * 7, ("BadLength", 8, 7))]
            self.check_refusals(pack, {"width": width, "numbers": numbers}, {"width": BAD_WIDTH, "numbers": bad})
            data = [0, 255] * width
            bad = bad_items(0, 255, data)
            if width > 1:
                bad += [([256] * (width + 1), ("BadLength", 2 * width, width + 1)), ([None], ("BadLength", width, 1))]
            self.check_refusals(unpack, {"width": width, "data": data}, {"width": BAD_WIDTH, "data": bad})

    def test_the_first_wrong_item(self):
        self.same(refusal(pack, 4, [0, 15, 16, None, -1, 0, 0, 0]), ("BadItem", 2))
        self.same(refusal(unpack, 2, [0, 255, True, 256]), ("BadItem", 2))
        self.same(refusal(pack, 11, [2047] * 15 + [2048]), ("BadItem", 15))


class FirstNotBelowTest(ProgramTest):

    def test_by_the_definition(self):
        lists = [[], [0], [5], [1, 2, 3], [3, 2, 1], [-5, -4, -3], [7, -HUGE, HUGE, 0]]
        for numbers in (*lists, [HUGE, HUGE], [-HUGE] * 3, [2] * 9):
            for limit in (*range(-6, 9), HUGE, -HUGE, HUGE - 1, 1 - HUGE):
                places = [place for place, number in enumerate(numbers) if number >= limit]
                self.same(first_not_below(numbers, limit), places[0] if places else None)

    def test_edges(self):
        self.same([first_not_below([], -HUGE), first_not_below([], 0)], [None, None])
        self.same([first_not_below([4, 5], 5), first_not_below([4, 5], 6), first_not_below([4, 5], 4)], [1, None, 0])
        self.same(first_not_below([3328, 3329, 4095], 3329), 1)
        self.same(first_not_below([0] * 5000 + [1], 1), 5000)

    def test_calls(self):
        self.check_calls(first_not_below, {"numbers": [1, -2, 9, 9], "limit": 2}, 2)
        self.check_calls(first_not_below, {"numbers": [], "limit": 2}, None)

    def test_refusals(self):
        wrong = [([value], ("BadItem", 0)) for value in OTHER_KINDS]
        wrong += [([9, -HUGE, value, None], ("BadItem", 2)) for value in OTHER_KINDS]
        bad = {"numbers": wrong, "limit": no_integer("limit")}
        self.check_refusals(first_not_below, {"numbers": [1, 2, 3], "limit": 0}, bad)
        self.check_refusals(first_not_below, {"numbers": [], "limit": -HUGE}, bad)


class VectorTest(ProgramTest):

    def test_members(self):
        for n, q, root in RINGS:
            ring = Ring(n, q, root)
            polys = special_polynomials(n, q)
            for count in (1, 2, 3, 4):
                vector = polys[-count:]
                data = bytes_by_text(12, [item for poly in vector for item in poly])
                self.same(pack_vector(ring, vector), data)
                self.assertEqual(len(data), 3 * n * count // 2)
                self.same(unpack_vector(ring, count, data), vector)

    def test_numbers_above_the_modulus(self):
        chance = random.Random(5)
        for n, q, root in RINGS:
            for count in (1, 2, 3, 4):
                ends = (0, q - 1, q, q + 1, 4094, 4095)
                numbers = [chance.choice((*ends, chance.randrange(4096))) for _ in range(n * count)]
                expected = [[number % q for number in numbers[n * i:n * i + n]] for i in range(count)]
                self.same(unpack_vector(Ring(n, q, root), count, bytes_by_text(12, numbers)), expected)

    def test_all_bytes_255(self):
        for n, q, root in RINGS:
            self.same(unpack_vector(Ring(n, q, root), 1, [255] * (3 * n // 2)), [[4095 % q] * n])

    def test_calls(self):
        data = bytes_by_text(12, POLY + [0, 16] * 4)
        self.check_calls(pack_vector, {"ring": RING, "vector": [POLY, [0, 16] * 4]}, data)
        self.check_calls(unpack_vector, {"ring": RING, "count": 2, "data": data}, [POLY, [0, 16] * 4])

    def test_refusals(self):
        for vector in ([POLY], [POLY, [0] * 8, [16] * 8], [POLY] * 4):
            bad = {"vector": bad_vector("vector", vector, bad_list(0, 16, POLY))}
            self.check_refusals(pack_vector, {"ring": RING, "vector": vector}, bad)
        for n, q, root in ((8, 17, 2), (16, 17, 3), (256, 3329, 17)):
            for count in (1, 2, 4):
                data = [255] * (3 * n * count // 2)
                bad = {"count": out_of_range("count", 1, 4), "data": bad_list(0, 255, data)}
                self.check_refusals(unpack_vector, {"ring": Ring(n, q, root), "count": count, "data": data}, bad)
        self.same(refusal(unpack_vector, RING, 1, [256] * 13), ("BadLength", 12, 13))
        for data, expected in BAD_BYTES:
            self.same(refusal(unpack_vector, RING, 0, data), ("OutOfRange", "count"))
            self.same(refusal(unpack_vector, RING, 1, data + [0] * (12 - len(data))), expected)


if __name__ == "__main__":
    unittest.main()
