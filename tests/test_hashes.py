import hashlib
import unittest

from noisebound.hashes import Stretcher, hash_32, hash_64, stretch_128, stretch_256
from tests.tools import BAD_BYTES, ProgramTest, no_choice, out_of_range, refusal

LONG = [(17 * place + place // 256) % 256 for place in range(20000)]
BAD_COUNTS = out_of_range("count", 0, 20000)
STRETCHES = [(stretch_128, hashlib.shake_128, 168, 128), (stretch_256, hashlib.shake_256, 136, 256)]


def around(rate):
    """Lengths at, one below and one above one and two multiples of the rate."""
    return [0, 1, rate - 1, rate, rate + 1, 2 * rate - 1, 2 * rate, 2 * rate + 1]


class HashTest(ProgramTest):

    def test_published(self):
        for function, published, rate in ((hash_32, hashlib.sha3_256, 136), (hash_64, hashlib.sha3_512, 72)):
            for count in (*around(rate), 3000, 20000):
                found = function(LONG[:count])
                self.same(found, list(published(bytes(LONG[:count])).digest()))

    def test_lengths(self):
        self.assertEqual([len(hash_32([])), len(hash_64([]))], [32, 64])

    def test_calls(self):
        self.check_calls(hash_32, {"data": [1, 2]}, list(hashlib.sha3_256(b"\1\2").digest()))
        self.check_calls(hash_64, {"data": [1, 2]}, list(hashlib.sha3_512(b"\1\2").digest()))

    def test_refusals(self):
        for function in (hash_32, hash_64):
            self.check_refusals(function, {"data": [1]}, {"data": BAD_BYTES})


class StretchTest(ProgramTest):

    def test_examples(self):
        self.same([stretch_128([1, 2, 3], 0), Stretcher([7]).read(0)], [[], []])

    def test_published(self):
        for function, published, rate, _ in STRETCHES:
            for count in (*around(rate), 3000):
                expected = list(published(bytes(LONG[:count])).digest(2 * rate + 1))
                for length in around(rate):
                    self.same(function(LONG[:count], length), expected[:length])

    def test_long(self):
        for function, published, _, _ in STRETCHES:
            self.same(function(LONG, 20000), list(published(bytes(LONG)).digest(20000)))
            self.same(function([], 5000), list(published(b"").digest(5000)))

    def test_calls(self):
        for function, published, _, _ in STRETCHES:
            expected = list(published(b"\1\2").digest(10))
            self.check_calls(function, {"data": [1, 2], "count": 10}, expected)
            self.check_calls(function, {"data": [1, 2], "count": 0}, [])

    def test_refusals(self):
        for function in (stretch_128, stretch_256):
            bad = {"data": BAD_BYTES, "count": BAD_COUNTS}
            self.check_refusals(function, {"data": [1], "count": 1}, bad)


class StretcherTest(ProgramTest):

    def test_new(self):
        stretcher = Stretcher([1, 2])
        self.same([stretcher.strength, stretcher.position], [128, 0])
        for strength in (128, 256):
            stretcher = Stretcher(strength=strength, seed=[1, 2])
            self.same([stretcher.strength, stretcher.position], [strength, 0])
        with self.assertRaises(TypeError):
            Stretcher([1, 2], 128)

    def test_default_strength(self):
        expected = list(hashlib.shake_128(b"\1\2").digest(400))
        self.same(Stretcher([1, 2]).read(400), expected)
        self.same(Stretcher([1, 2], strength=128).read(400), expected)

    def test_reads_in_pieces(self):
        for _, published, rate, strength in STRETCHES:
            expected = list(published(bytes(LONG[:rate])).digest(4 * rate))
            for size in (1, 7, rate - 1, rate, rate + 1, 2 * rate):
                stretcher = Stretcher(LONG[:rate], strength=strength)
                output = []
                while len(output) + size <= 4 * rate:
                    self.same(stretcher.position, len(output))
                    output += stretcher.read(count=size)
                    self.same(stretcher.read(0), [])
                self.same(output, expected[:len(output)])
                self.same(stretcher.position, len(output))

    def test_long_seed(self):
        expected = list(hashlib.shake_256(bytes(LONG)).digest(50))
        self.same(Stretcher(LONG, strength=256).read(50), expected)
        self.same(Stretcher([], strength=256).read(50), list(hashlib.shake_256(b"").digest(50)))

    def test_position_backward_and_forward(self):
        for _, published, _, strength in STRETCHES:
            expected = list(published(b"\7").digest(21000))
            stretcher = Stretcher([7], strength=strength)
            for position, count in ((100, 50), (0, 10), (149, 1), (5, 400), (3000, 3), (0, 0), (20000, 5), (19999, 9)):
                stretcher.position = position
                self.same(stretcher.position, position)
                self.same(stretcher.read(count), expected[position:position + count])
                self.same(stretcher.position, position + count)

    def test_setting_reads_nothing(self):
        stretcher = Stretcher([7])
        stretcher.position = 20000
        stretcher.position = 3
        self.same(stretcher.read(4), list(hashlib.shake_128(b"\7").digest(7))[3:])

    def test_past_20000(self):
        for _, published, _, strength in STRETCHES:
            expected = list(published(b"\7").digest(40000))
            stretcher = Stretcher([7], strength=strength)
            stretcher.position = 20000
            self.same(stretcher.read(20000), expected[20000:])
            self.same(stretcher.position, 40000)
            self.same(stretcher.read(0), [])
            stretcher.position = 19990
            self.same(stretcher.read(20), expected[19990:20010])
            self.same(stretcher.position, 20010)
            self.same(refusal(setattr, stretcher, "position", 20010), ("OutOfRange", "position"))
            self.same(stretcher.position, 20010)
            self.same(stretcher.read(5), expected[20010:20015])

    def test_reading_at_once_and_again(self):
        expected = list(hashlib.shake_128(b"").digest(40000))
        stretcher = Stretcher([])
        self.same(stretcher.read(20000) + stretcher.read(20000), expected)
        stretcher.position = 0
        self.same(stretcher.read(20000), expected[:20000])

    def test_construction_refusals(self):
        bad = {"seed": BAD_BYTES, "strength": no_choice("strength", (128, 256))}
        self.check_refusals(Stretcher, {"seed": [1], "strength": 256}, bad)
        self.check_refusals(Stretcher, {"seed": [1], "strength": 128}, bad)

    def test_refusals_change_nothing(self):
        expected = list(hashlib.shake_128(b"\1").digest(30))
        stretcher = Stretcher([1])
        output = stretcher.read(10)
        for count, told in BAD_COUNTS:
            self.same(refusal(stretcher.read, count), told)
            self.same(refusal(stretcher.read, count=count), told)
        for position, told in out_of_range("position", 0, 20000):
            self.same(refusal(setattr, stretcher, "position", position), told)
        self.same(stretcher.position, 10)
        self.same(output + stretcher.read(20), expected)

    def test_copies(self):
        seed = [1]
        stretcher = Stretcher(seed)
        seed[0] = 2
        seed.append(3)
        output = stretcher.read(10)
        output[0] = "spoiled"
        output.clear()
        stretcher.position = 0
        self.same(stretcher.read(10), list(hashlib.shake_128(b"\1").digest(10)))
        self.same(seed, [2, 3])

    def test_two_stretchers_do_not_influence_each_other(self):
        first, second = Stretcher([1]), Stretcher([1])
        first.read(7)
        first.position = 100
        self.same(second.position, 0)
        self.same(second.read(5), list(hashlib.shake_128(b"\1").digest(5)))
        self.same(first.read(5), list(hashlib.shake_128(b"\1").digest(105))[100:])
        self.same([first.position, second.position], [105, 5])


if __name__ == "__main__":
    unittest.main()
