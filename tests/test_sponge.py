import hashlib
import itertools
import unittest

from noisebound.sponge import Sponge, pad, sponge_bytes, unpad
from tests.test_permutation import rule_permute
from tests.tools import BAD_BYTES, HUGE, OTHER_KINDS, ProgramTest, out_of_range, refusal

LONG = [(13 * place + place // 256) % 256 for place in range(20000)]
RATES = list(range(8, 193, 8))

NO_RATES = [*OTHER_KINDS, 0, 1, 4, 7, 9, 12, 15, 17, 136.0, 191, 193, 199, 200, -8, -136, HUGE, -HUGE, HUGE * 8]
BAD_RATES = [(rate, ("OutOfRange", "rate")) for rate in NO_RATES]
BAD_SUFFIXES = out_of_range("suffix", 1, 127)
BAD_COUNTS = out_of_range("count", 0, 20000)

PADDINGS = {"padded": BAD_BYTES, "rate": BAD_RATES, "suffix": BAD_SUFFIXES}


def rule_pad(data, rate, suffix):
    """The padded form by the words of the document."""
    end = (len(data) // rate + 1) * rate
    padding = [0] * (end - len(data))
    padding[0] += suffix
    padding[-1] += 128
    return data + padding


def rule_output(data, count, rate, suffix):
    """The output of a sponge, written apart from the program."""
    state = [0] * 25
    padded = rule_pad(data, rate, suffix)
    for start in range(0, len(padded), rate):
        for lane in range(rate // 8):
            eight = padded[start + 8 * lane:start + 8 * lane + 8]
            state[lane] ^= int.from_bytes(bytes(eight), "little")
        state = rule_permute(state, 0, 24)
    output = []
    while len(output) < count:
        front = b"".join(lane.to_bytes(8, "little") for lane in state)
        output += front[:rate]
        state = rule_permute(state, 0, 24)
    return output[:count]


class PadTest(ProgramTest):

    def test_examples(self):
        padded = [pad([1, 2], rate=8, suffix=6), pad([1, 2, 3, 4, 5, 6, 7], rate=8, suffix=6)]
        self.same(padded, [[1, 2, 6, 0, 0, 0, 0, 128], [1, 2, 3, 4, 5, 6, 7, 134]])

    def test_edges(self):
        self.same(pad([], rate=8, suffix=6), [6, 0, 0, 0, 0, 0, 0, 128])
        self.same(pad([9] * 6, rate=8, suffix=6), [9] * 6 + [6, 128])
        self.same(pad([9] * 7, rate=8, suffix=127), [9] * 7 + [255])
        self.same(pad([9] * 7, rate=8, suffix=1), [9] * 7 + [129])
        self.same(pad([9] * 8, rate=8, suffix=6), [9] * 8 + [6, 0, 0, 0, 0, 0, 0, 128])
        self.same(pad([9] * 15, rate=16, suffix=31), [9] * 15 + [159])

    def test_all_rates(self):
        for rate, suffix in itertools.product(RATES, (1, 6, 31, 127)):
            for count in (0, 1, rate - 2, rate - 1, rate, rate + 1, 2 * rate - 1, 2 * rate, 2 * rate + 1):
                padded = pad(LONG[:count], rate=rate, suffix=suffix)
                self.same(padded, rule_pad(LONG[:count], rate, suffix))
                self.same(unpad(padded, rate=rate, suffix=suffix), LONG[:count])

    def test_long(self):
        padded = pad(LONG, rate=8, suffix=1)
        self.same(padded, LONG + [1, 0, 0, 0, 0, 0, 0, 128])
        self.same(unpad(padded, rate=8, suffix=1), LONG)
        self.same(unpad(pad([0] * 20000, rate=192, suffix=1), rate=192, suffix=1), [0] * 20000)

    def test_data_that_looks_like_padding(self):
        for data in ([128], [6], [6, 128], [6, 0, 0, 128], [0] * 8, [6] + [0] * 6 + [128], [134] * 7, [0] * 7):
            self.same(unpad(pad(data, rate=8, suffix=6), rate=8, suffix=6), data)
            twice = pad(pad(data, rate=8, suffix=6), rate=8, suffix=6)
            self.same(unpad(twice, rate=8, suffix=6), pad(data, rate=8, suffix=6))

    def test_calls(self):
        good = {"data": [1, 2, 3, 4, 5], "rate": 8, "suffix": 7}
        self.check_calls(pad, good, [1, 2, 3, 4, 5, 7, 0, 128], keyword_only=2)
        good = {"padded": [1, 2, 3, 4, 5, 7, 0, 128], "rate": 8, "suffix": 7}
        self.check_calls(unpad, good, [1, 2, 3, 4, 5], keyword_only=2)
        good = {"padded": [7, 0, 0, 0, 0, 0, 0, 128], "rate": 8, "suffix": 7}
        self.check_calls(unpad, good, [], keyword_only=2)

    def test_refusals(self):
        bad = {"data": BAD_BYTES, "rate": BAD_RATES, "suffix": BAD_SUFFIXES}
        self.check_refusals(pad, {"data": [1], "rate": 192, "suffix": 127}, bad)
        self.check_refusals(pad, {"data": [1], "rate": 8, "suffix": 1}, bad)


class UnpadTest(ProgramTest):

    def test_not_padded(self):
        wrong = [
            [],
            [6],
            [6, 128],
            [6, 0, 0, 0, 0, 0, 128],
            [1, 6, 0, 0, 0, 0, 0, 0, 128],
            [0] * 8,
            [1, 2, 3, 4, 5, 6, 7, 8],
            [6, 0, 0, 0, 0, 0, 0, 0],
            [6, 0, 0, 0, 0, 0, 0, 127],
            [6, 0, 0, 0, 0, 0, 0, 129],
            [0, 0, 0, 0, 0, 0, 0, 128],
            [1, 2, 7, 0, 0, 0, 0, 128],
            [1, 2, 6, 0, 1, 0, 0, 128],
            [1, 2, 134, 0, 0, 0, 0, 128],
            [1, 2, 3, 4, 5, 6, 7, 133],
            [1, 2, 3, 4, 5, 6, 7, 135],
            [1, 2, 3, 4, 5, 6, 7, 6],
            [1, 2, 3, 4, 5, 6, 134, 0],
            [1, 2, 3, 4, 5, 6, 6, 0],
            [128, 128, 128, 128, 128, 128, 128, 128],
        ]
        for padded in wrong:
            self.same(refusal(unpad, padded, rate=8, suffix=6), ("BadPadding",))
            before = [6, 0, 0, 0, 0, 0, 0, 128]
            if padded:
                self.same(refusal(unpad, before + padded, rate=8, suffix=6), ("BadPadding",))

    def test_suffix_in_an_earlier_block(self):
        padded = [1, 2, 3, 4, 5, 6, 7, 6] + [0] * 7 + [128]
        self.same(refusal(unpad, padded, rate=8, suffix=6), ("BadPadding",))
        self.same(unpad(padded, rate=16, suffix=6), [1, 2, 3, 4, 5, 6, 7])

    def test_only_the_last_block_is_looked_at(self):
        padded = [0] * 8 + [6, 0, 0, 0, 0, 0, 0, 128]
        self.same(unpad(padded, rate=8, suffix=6), [0] * 8)
        self.same(unpad(padded, rate=16, suffix=6), [0] * 8)
        self.same(refusal(unpad, padded + [0], rate=8, suffix=6), ("BadPadding",))
        self.same(refusal(unpad, padded, rate=24, suffix=6), ("BadPadding",))

    def test_another_rate_or_suffix(self):
        padded = pad([1, 2, 3], rate=16, suffix=6)
        self.same(refusal(unpad, padded, rate=16, suffix=31), ("BadPadding",))
        self.same(refusal(unpad, padded, rate=8, suffix=6), ("BadPadding",))
        self.same(refusal(unpad, padded, rate=24, suffix=6), ("BadPadding",))

    def test_each_list_of_a_block_is_decided(self):
        forms = {tuple(rule_pad(list(data), 8, 6)): list(data)
                 for count in range(8) for data in itertools.product((0, 6), repeat=count)}
        for block in itertools.product((0, 6), (0, 6), (0, 6), (0,), (0, 6), (0,), (0, 6), (0, 6, 128, 134)):
            expected = ("answer", forms[block]) if block in forms else ("BadPadding",)
            self.same(refusal(unpad, list(block), rate=8, suffix=6), expected)

    def test_refusals(self):
        good = {"padded": rule_pad([], 192, 127), "rate": 192, "suffix": 127}
        self.check_refusals(unpad, good, PADDINGS)
        good = {"padded": [1, 0, 0, 0, 0, 0, 0, 128], "rate": 8, "suffix": 1}
        self.check_refusals(unpad, good, PADDINGS)

    def test_bad_padding_comes_last(self):
        self.same(refusal(unpad, [256], rate=8, suffix=6), ("BadItem", 0))
        self.same(refusal(unpad, [], rate=7, suffix=6), ("OutOfRange", "rate"))
        self.same(refusal(unpad, [], rate=8, suffix=0), ("OutOfRange", "suffix"))


class SpongeBytesTest(ProgramTest):

    def test_against_the_rules(self):
        for rate, suffix in ((8, 1), (72, 6), (136, 31), (168, 127), (192, 77)):
            for count in (0, 1, rate - 1, rate, rate + 1):
                expected = rule_output(LONG[:count], 2 * rate + 1, rate, suffix)
                for length in (0, 1, rate - 1, rate, rate + 1, 2 * rate, 2 * rate + 1):
                    found = sponge_bytes(LONG[:count], length, rate=rate, suffix=suffix)
                    self.same(found, expected[:length])

    def test_all_rates(self):
        for rate in RATES:
            found = sponge_bytes([1, 2, 3], rate + 3, rate=rate, suffix=5)
            self.same(found, rule_output([1, 2, 3], rate + 3, rate, 5))

    def test_long(self):
        found = sponge_bytes(LONG, 20000, rate=136, suffix=31)
        self.assertEqual(bytes(found), hashlib.shake_256(bytes(LONG)).digest(20000))

    def test_calls(self):
        good = {"data": [1, 2], "count": 20, "rate": 16, "suffix": 9}
        self.check_calls(sponge_bytes, good, rule_output([1, 2], 20, 16, 9), keyword_only=2)
        good = {"data": [1, 2], "count": 0, "rate": 16, "suffix": 9}
        self.check_calls(sponge_bytes, good, [], keyword_only=2)

    def test_refusals(self):
        good = {"data": [1], "count": 1, "rate": 192, "suffix": 127}
        bad = {"data": BAD_BYTES, "count": BAD_COUNTS, "rate": BAD_RATES, "suffix": BAD_SUFFIXES}
        self.check_refusals(sponge_bytes, good, bad)


def told(sponge):
    """What a sponge tells of itself."""
    return [sponge.rate, sponge.suffix, sponge.phase, sponge.absorbed, sponge.squeezed]


class SpongeTest(ProgramTest):

    def test_new(self):
        self.same(told(Sponge(rate=8, suffix=1)), [8, 1, "absorbing", 0, 0])
        self.same(told(Sponge(suffix=127, rate=192)), [192, 127, "absorbing", 0, 0])

    def test_parameters_by_keyword_alone(self):
        with self.assertRaises(TypeError):
            Sponge(8, 1)
        bad = {"rate": BAD_RATES, "suffix": BAD_SUFFIXES}
        self.check_refusals(Sponge, {"rate": 8, "suffix": 1}, bad)

    def test_counts_and_phases(self):
        sponge = Sponge(rate=16, suffix=6)
        self.assertIsNone(sponge.absorb([1, 2, 3]))
        self.same(told(sponge), [16, 6, "absorbing", 3, 0])
        self.assertIsNone(sponge.absorb(data=[4] * 40))
        self.same(told(sponge), [16, 6, "absorbing", 43, 0])
        sponge.absorb([])
        self.same(told(sponge), [16, 6, "absorbing", 43, 0])
        self.assertEqual(len(sponge.squeeze(count=5)), 5)
        self.same(told(sponge), [16, 6, "squeezing", 43, 5])
        sponge.squeeze(0)
        self.assertEqual(len(sponge.squeeze(40)), 40)
        self.same(told(sponge), [16, 6, "squeezing", 43, 45])

    def test_asking_for_no_bytes_changes_the_phase(self):
        sponge = Sponge(rate=16, suffix=6)
        sponge.absorb([1])
        self.same(sponge.squeeze(0), [])
        self.same(told(sponge), [16, 6, "squeezing", 1, 0])
        self.same(refusal(sponge.absorb, [1]), ("WrongPhase",))
        self.same(sponge.squeeze(20), rule_output([1], 20, 16, 6))

    def test_wrong_phase(self):
        sponge = Sponge(rate=16, suffix=6)
        sponge.absorb([7])
        first = sponge.squeeze(3)
        self.same(refusal(sponge.absorb, []), ("WrongPhase",))
        self.same(refusal(sponge.absorb, [1, 2]), ("WrongPhase",))
        self.same(refusal(sponge.absorb, data=[1, 2]), ("WrongPhase",))
        for data, expected in BAD_BYTES:
            self.same(refusal(sponge.absorb, data), expected)
        self.same(told(sponge), [16, 6, "squeezing", 1, 3])
        self.same(first + sponge.squeeze(30), rule_output([7], 33, 16, 6))

    def test_pieces(self):
        for rate, suffix in ((8, 6), (40, 31), (136, 6)):
            data = LONG[:2 * rate + 5]
            expected = rule_output(data, 3 * rate, rate, suffix)
            for size in (1, 2, rate - 1, rate, rate + 1, 2 * rate, len(data)):
                sponge = Sponge(rate=rate, suffix=suffix)
                sponge.absorb([])
                for start in range(0, len(data), size):
                    sponge.absorb(data[start:start + size])
                    sponge.absorb([])
                output = sponge.squeeze(0)
                while len(output) + size <= 3 * rate:
                    output += sponge.squeeze(size)
                    output += sponge.squeeze(0)
                self.same(output, expected[:len(output)])
                self.same(told(sponge)[2:], ["squeezing", len(data), len(output)])

    def test_uneven_pieces(self):
        sponge = Sponge(rate=24, suffix=3)
        start = 0
        for size in (0, 1, 23, 24, 25, 0, 47, 48, 49, 5):
            sponge.absorb(LONG[start:start + size])
            start += size
        output = []
        for size in (0, 1, 23, 24, 25, 0, 47, 48, 49, 5):
            output += sponge.squeeze(size)
        self.same(output, rule_output(LONG[:start], len(output), 24, 3))

    def test_most_bytes(self):
        sponge = Sponge(rate=168, suffix=31)
        for _ in range(5):
            sponge.absorb(LONG)
        output = [byte for _ in range(5) for byte in sponge.squeeze(20000)]
        self.same(told(sponge), [168, 31, "squeezing", 100000, 100000])
        self.assertEqual(bytes(output), hashlib.shake_128(bytes(LONG * 5)).digest(100000))

    def test_refusals_change_nothing(self):
        sponge = Sponge(rate=16, suffix=6)
        sponge.absorb([1, 2])
        for data, expected in BAD_BYTES:
            before = repr(data)
            self.same(refusal(sponge.absorb, data), expected)
            self.assertEqual(repr(data), before)
        for count, expected in BAD_COUNTS:
            self.same(refusal(sponge.squeeze, count), expected)
        self.same(told(sponge), [16, 6, "absorbing", 2, 0])
        sponge.absorb([3])
        output = sponge.squeeze(10)
        for count, expected in BAD_COUNTS:
            self.same(refusal(sponge.squeeze, count=count), expected)
        self.same(told(sponge), [16, 6, "squeezing", 3, 10])
        self.same(output + sponge.squeeze(10), rule_output([1, 2, 3], 20, 16, 6))

    def test_copies(self):
        sponge = Sponge(rate=16, suffix=6)
        data = [1, 2, 3]
        sponge.absorb(data)
        self.same(data, [1, 2, 3])
        data[0] = 9
        output = sponge.squeeze(4)
        self.same(output, rule_output([1, 2, 3], 4, 16, 6))
        output[0] = "spoiled"
        self.same(sponge.squeeze(4), rule_output([1, 2, 3], 8, 16, 6)[4:])
        whole = sponge.squeeze(24)
        whole.clear()
        self.same(sponge.squeeze(16), rule_output([1, 2, 3], 48, 16, 6)[32:])

    def test_two_sponges_do_not_influence_each_other(self):
        first, second = Sponge(rate=16, suffix=6), Sponge(rate=16, suffix=6)
        first.absorb([1])
        second.absorb([2])
        self.same(first.squeeze(5), rule_output([1], 5, 16, 6))
        second.absorb([3])
        self.same(second.squeeze(5), rule_output([2, 3], 5, 16, 6))
        self.same(first.squeeze(30), rule_output([1], 35, 16, 6)[5:])
        self.same([told(first), told(second)], [[16, 6, "squeezing", 1, 35], [16, 6, "squeezing", 2, 5]])


class ForkTest(ProgramTest):

    def test_new_sponge(self):
        sponge = Sponge(rate=16, suffix=6)
        twin = sponge.fork()
        self.assertIsNot(sponge, twin)
        self.assertIsInstance(twin, Sponge)
        self.same(told(twin), [16, 6, "absorbing", 0, 0])
        twin.absorb([5])
        self.same(twin.squeeze(3), rule_output([5], 3, 16, 6))
        self.same(sponge.squeeze(3), rule_output([], 3, 16, 6))

    def test_while_absorbing(self):
        for count in (3, 16, 21):
            sponge = Sponge(rate=16, suffix=6)
            sponge.absorb(LONG[:count])
            twin = sponge.fork()
            self.same(told(twin), told(sponge))
            sponge.absorb([1])
            twin.absorb([2, 2])
            again = twin.fork()
            twin.absorb(LONG)
            self.same(told(sponge), [16, 6, "absorbing", count + 1, 0])
            self.same(told(again), [16, 6, "absorbing", count + 2, 0])
            self.same(sponge.squeeze(40), rule_output(LONG[:count] + [1], 40, 16, 6))
            self.same(told(again), [16, 6, "absorbing", count + 2, 0])
            self.same(again.squeeze(40), rule_output(LONG[:count] + [2, 2], 40, 16, 6))

    def test_while_squeezing(self):
        expected = rule_output([1, 2], 100, 16, 6)
        for count in (0, 3, 16, 21):
            sponge = Sponge(rate=16, suffix=6)
            sponge.absorb([1, 2])
            sponge.squeeze(count)
            twin = sponge.fork()
            self.same(told(twin), [16, 6, "squeezing", 2, count])
            self.same(twin.squeeze(30), expected[count:count + 30])
            self.same(sponge.squeeze(9), expected[count:count + 9])
            self.same(twin.squeeze(9), expected[count + 30:count + 39])
            self.same(told(twin), [16, 6, "squeezing", 2, count + 39])
            self.same(told(sponge), [16, 6, "squeezing", 2, count + 9])
            self.same(refusal(twin.absorb, []), ("WrongPhase",))
            self.same(sponge.squeeze(40), expected[count + 9:count + 49])


if __name__ == "__main__":
    unittest.main()
