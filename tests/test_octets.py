import unittest

from noisebound.octets import (
    bits_of,
    bytes_of,
    change_byte,
    check_bytes,
    concatenate,
    differing_places,
    little_bytes,
    little_integer,
    split_at,
    xor_bytes,
)
from tests.tools import BAD_BYTES, HUGE, ProgramTest, bad_items, out_of_range, refusal, wrong_integers

EVERY_BYTE = list(range(256))
LONG = [(7 * place + place // 256) % 256 for place in range(20000)]


class CheckBytesTest(ProgramTest):

    def test_accepts(self):
        for data in ([], [0], [255], EVERY_BYTE, LONG):
            self.assertIsNone(check_bytes(data))
            self.assertIsNone(check_bytes(data, length=None))
            self.assertIsNone(check_bytes(data, length=len(data)))
        self.assertIsNone(check_bytes(length=2, data=[1, 2]))

    def test_calls(self):
        self.check_calls(check_bytes, {"data": [1, 2, 3], "length": 3}, None, keyword_only=1)

    def test_refuses_items(self):
        self.check_refusals(check_bytes, {"data": [1]}, {"data": BAD_BYTES})
        self.same(refusal(check_bytes, [*LONG[:-1], 256]), ("BadItem", 19999))

    def test_refuses_lengths(self):
        wrong = [pair for pair in out_of_range("length", 0, 20000) if pair[0] is not None]
        self.check_refusals(check_bytes, {"data": [1], "length": 1}, {"length": wrong})

    def test_refuses_another_number_of_items(self):
        for count, length in ((0, 1), (1, 0), (3, 2), (3, 4), (0, 20000), (20000, 19999)):
            self.same(refusal(check_bytes, [5] * count, length=length), ("BadLength", length, count))

    def test_length_is_checked_before_data(self):
        self.same(refusal(check_bytes, [256], length=-1), ("OutOfRange", "length"))
        self.same(refusal(check_bytes, [256], length=True), ("OutOfRange", "length"))
        self.same(refusal(check_bytes, [256, 1], length=3), ("BadLength", 3, 2))
        self.same(refusal(check_bytes, [256], length=0), ("BadLength", 0, 1))
        self.same(refusal(check_bytes, [1, 256], length=2), ("BadItem", 1))

    def test_leaves_data_as_it_was(self):
        for data in ([1, 2], [1, 256], [True]):
            before = repr(data)
            refusal(check_bytes, data, length=2)
            self.assertEqual(repr(data), before)


class ConcatenateTest(ProgramTest):

    def test_joins(self):
        self.same(concatenate(), [])
        self.same(concatenate([]), [])
        self.same(concatenate([], [], []), [])
        self.same(concatenate([1]), [1])
        self.same(concatenate([3, 2], [], [1], [0, 255]), [3, 2, 1, 0, 255])
        self.same(concatenate(LONG, [1], LONG), LONG + [1] + LONG)

    def test_joins_many(self):
        pieces = [[place % 256] * (place % 3) for place in range(4000)]
        expected = []
        for piece in pieces:
            expected.extend(piece)
        self.same(concatenate(*pieces), expected)

    def test_refuses_items(self):
        for data, expected in BAD_BYTES:
            self.same(refusal(concatenate, data), expected)
            self.same(refusal(concatenate, [1, 2, 3], data), expected)
            self.same(refusal(concatenate, [1], data, [None, 256]), expected)
        self.same(refusal(concatenate, [1], [2, 3, -1], [256]), ("BadItem", 2))

    def test_answer_is_new(self):
        first, second = [1, 2], [3]
        answer = concatenate(first, second)
        alone = concatenate(first)
        first[0] = 9
        self.same([answer, alone], [[1, 2, 3], [1, 2]])
        answer[2] = 8
        alone[1] = 8
        self.same([first, second, concatenate(first, second)], [[9, 2], [3], [9, 2, 3]])

    def test_leaves_pieces_as_they_were(self):
        pieces = [[1], [2, None], [3]]
        refusal(concatenate, *pieces)
        self.same(pieces, [[1], [2, None], [3]])


class SplitAtTest(ProgramTest):

    def test_splits(self):
        self.same(split_at([], sizes=[]), [])
        self.same(split_at([], sizes=[0]), [[]])
        self.same(split_at([], sizes=[0, 0, 0]), [[], [], []])
        self.same(split_at([5], sizes=[0, 1, 0]), [[], [5], []])
        self.same(split_at([1, 2, 3, 4, 5, 6], sizes=[2, 0, 1, 3]), [[1, 2], [], [3], [4, 5, 6]])
        self.same(split_at(LONG, sizes=[20000]), [LONG])
        self.same(split_at(LONG, sizes=[19999, 1]), [LONG[:19999], LONG[19999:]])

    def test_splits_at_many_sizes(self):
        expected = [LONG[place * 5:place * 5 + 5] for place in range(4000)]
        self.same(split_at(LONG, sizes=[5] * 4000), expected)
        self.same(split_at([], sizes=[0] * 4000), [[] for _ in range(4000)])

    def test_calls(self):
        good = {"data": [1, 2, 3], "sizes": [1, 0, 2]}
        self.check_calls(split_at, good, [[1], [], [2, 3]], keyword_only=1)
        self.check_calls(split_at, {"data": [1, 2, 3], "sizes": [3]}, [[1, 2, 3]], keyword_only=1)

    def test_refusals(self):
        sizes = [([value], ("OutOfRange", "sizes")) for value in wrong_integers(0, 20000)]
        sizes = sizes + [([1, value, 1], ("OutOfRange", "sizes")) for value in wrong_integers(0, 20000)]
        sizes = sizes + [([2, -1], ("OutOfRange", "sizes")), ([20001], ("OutOfRange", "sizes"))]
        self.check_refusals(split_at, {"data": [4], "sizes": [1]}, {"data": BAD_BYTES, "sizes": sizes})

    def test_refuses_another_sum(self):
        self.same(refusal(split_at, [1, 2], sizes=[]), ("BadLength", 0, 2))
        self.same(refusal(split_at, [1, 2], sizes=[1]), ("BadLength", 1, 2))
        self.same(refusal(split_at, [1, 2], sizes=[1, 2]), ("BadLength", 3, 2))
        self.same(refusal(split_at, [], sizes=[0, 1]), ("BadLength", 1, 0))
        self.same(refusal(split_at, [], sizes=[20000, 20000]), ("BadLength", 40000, 0))
        self.same(refusal(split_at, [1, 2], sizes=[7, -1]), ("OutOfRange", "sizes"))
        self.same(refusal(split_at, [1, 2, None], sizes=[7]), ("BadItem", 2))


class XorBytesTest(ProgramTest):

    def test_combines(self):
        self.same(xor_bytes([], []), [])
        self.same(xor_bytes([12, 255, 0, 129], [10, 255, 7, 1]), [6, 0, 7, 128])
        expected = [LONG[place] ^ 165 for place in range(20000)]
        self.same(xor_bytes(LONG, [165] * 20000), expected)

    def test_calls(self):
        self.check_calls(xor_bytes, {"first": [1, 2], "second": [3, 3]}, [2, 1])

    def test_refusals(self):
        good = {"first": [1, 2, 3], "second": [4, 5, 6]}
        self.check_refusals(xor_bytes, good, {"first": BAD_BYTES, "second": BAD_BYTES})

    def test_refuses_unequal_numbers(self):
        self.same(refusal(xor_bytes, [1, 2], [3]), ("BadLength", 2, 1))
        self.same(refusal(xor_bytes, [], [3, 4, 5]), ("BadLength", 0, 3))
        self.same(refusal(xor_bytes, [1, 256], [3]), ("BadItem", 1))
        self.same(refusal(xor_bytes, [1, 2], [3, 4, 5, -1]), ("BadItem", 3))


class DifferingPlacesTest(ProgramTest):

    def test_lists_places(self):
        self.same(differing_places([], []), [])
        self.same(differing_places([1, 2, 3], [1, 2, 3]), [])
        self.same(differing_places([1, 2, 3], [0, 2, 4]), [0, 2])
        self.same(differing_places([1, 2, 3], [1]), [1, 2])
        self.same(differing_places([1], [2, 1, 1]), [0, 1, 2])
        self.same(differing_places([], [0, 0]), [0, 1])
        self.same(differing_places([0, 0], []), [0, 1])
        self.same(differing_places(LONG, LONG[:19990]), list(range(19990, 20000)))
        self.same(differing_places([0] * 20000, [1] * 20000), list(range(20000)))

    def test_calls(self):
        self.check_calls(differing_places, {"first": [1, 2, 4], "second": [1, 3]}, [1, 2])

    def test_refusals(self):
        good = {"first": [1, 2, 3], "second": [4]}
        self.check_refusals(differing_places, good, {"first": BAD_BYTES, "second": BAD_BYTES})


class ChangeByteTest(ProgramTest):

    def test_changes(self):
        self.same(change_byte([1, 2, 3], 0, 9), [9, 2, 3])
        self.same(change_byte([1, 2, 3], 2, 0), [1, 2, 0])
        self.same(change_byte([1, 2, 3], 1, 255), [1, 255, 3])
        self.same(change_byte([1, 2, 3], 1, 2), [1, 2, 3])
        self.same(change_byte(LONG, 19999, 77), LONG[:19999] + [77])

    def test_calls(self):
        self.check_calls(change_byte, {"data": [1, 2], "index": 1, "value": 7}, [1, 7])
        self.check_calls(change_byte, {"data": [1, 2], "index": 1, "value": 2}, [1, 2])

    def test_refusals(self):
        good = {"data": [1, 2, 3, 4, 5], "index": 4, "value": 7}
        index, value = out_of_range("index", 0, 4), out_of_range("value", 0, 255)
        self.check_refusals(change_byte, good, {"data": BAD_BYTES, "index": index, "value": value})

    def test_empty_list_has_no_index(self):
        for index in (0, -1, 1, True, None):
            self.same(refusal(change_byte, [], index, 5), ("OutOfRange", "index"))
        self.same(refusal(change_byte, [], 0, 256), ("OutOfRange", "index"))


class LittleTest(ProgramTest):

    def test_examples(self):
        self.same(little_bytes(3, 258), [2, 1, 0])

    def test_little_bytes(self):
        self.same(little_bytes(0, 0), [])
        self.same(little_bytes(1, 255), [255])
        self.same(little_bytes(4, 0), [0, 0, 0, 0])
        self.same(little_bytes(4, 0x04030201), [1, 2, 3, 4])
        self.same(little_bytes(200, 0), [0] * 200)
        self.same(little_bytes(200, 256 ** 200 - 1), [255] * 200)
        self.same(little_bytes(200, 256 ** 199), [0] * 199 + [1])

    def test_little_integer(self):
        self.same(little_integer([]), 0)
        self.same(little_integer([0]), 0)
        self.same(little_integer([2, 1, 0]), 258)
        self.same(little_integer([0, 0, 1]), 65536)
        self.same(little_integer([255] * 200), 256 ** 200 - 1)
        self.same(little_integer(LONG[:200]), int.from_bytes(bytes(LONG[:200]), "little"))

    def test_each_undoes_the_other(self):
        for count in (1, 2, 7, 8, 32, 199, 200):
            for value in (0, 1, 256 ** count // 3, 256 ** count - 1):
                data = little_bytes(count, value)
                self.assertEqual(data, list(value.to_bytes(count, "little")))
                self.assertEqual(little_integer(data), value)

    def test_calls(self):
        self.check_calls(little_bytes, {"count": 2, "value": 513}, [1, 2])
        self.check_calls(little_integer, {"data": [1, 2]}, 513)

    def test_refusals(self):
        value = out_of_range("value", 0, 256 ** 2 - 1) + [(256 ** 200, ("OutOfRange", "value"))]
        bad = {"count": out_of_range("count", 0, 200), "value": value}
        self.check_refusals(little_bytes, {"count": 2, "value": 5}, bad)
        for count in (0, 1, 8, 200):
            self.same(refusal(little_bytes, count, 256 ** count), ("OutOfRange", "value"))
            self.same(refusal(little_bytes, count, -1), ("OutOfRange", "value"))
        self.same(refusal(little_bytes, 0, 1), ("OutOfRange", "value"))
        self.same(refusal(little_bytes, 201, HUGE), ("OutOfRange", "count"))
        self.check_refusals(little_integer, {"data": [1]}, {"data": BAD_BYTES})


class BitsTest(ProgramTest):

    def test_examples(self):
        self.same(bits_of([6]), [0, 1, 1, 0, 0, 0, 0, 0])

    def test_bits_of(self):
        self.same(bits_of([]), [])
        self.same(bits_of([1, 128]), [1] + [0] * 14 + [1])
        expected = [LONG[place // 8] // 2 ** (place % 8) % 2 for place in range(160000)]
        self.same(bits_of(LONG), expected)

    def test_bytes_of(self):
        self.same(bytes_of([]), [])
        self.same(bytes_of([0, 1, 1, 0, 0, 0, 0, 0]), [6])
        self.same(bytes_of([1] + [0] * 14 + [1]), [1, 128])
        self.same(bytes_of([1] * 16), [255, 255])

    def test_each_undoes_the_other(self):
        for data in (EVERY_BYTE, LONG):
            self.same(bytes_of(bits_of(data)), data)

    def test_calls(self):
        self.check_calls(bits_of, {"data": [3]}, [1, 1, 0, 0, 0, 0, 0, 0])
        self.check_calls(bytes_of, {"bits": [1, 1, 0, 0, 0, 0, 0, 0]}, [3])

    def test_refusals(self):
        self.check_refusals(bits_of, {"data": [1]}, {"data": BAD_BYTES})
        bad = bad_items(0, 1, [0, 1, 0, 1, 1, 1, 0, 0])
        self.check_refusals(bytes_of, {"bits": [0] * 8}, {"bits": bad})
        self.same(refusal(bytes_of, [0] * 15 + [2]), ("BadItem", 15))
        self.same(refusal(bytes_of, [0, 2, 3, 0, 0, 0, 0, 0]), ("BadItem", 1))

    def test_refuses_numbers_that_are_no_multiple_of_8(self):
        for more in range(1, 8):
            for wrong in (0, 2, None, True):
                self.same(refusal(bytes_of, [wrong] * more), ("BadLength", 8, more))
                self.same(refusal(bytes_of, [0] * 16 + [wrong] * more), ("BadLength", 24, 16 + more))


if __name__ == "__main__":
    unittest.main()
