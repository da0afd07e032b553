import hashlib
import itertools
import unittest

from noisebound import permutation
from noisebound.permutation import (
    bytes_from_state,
    chi,
    column_parities,
    constant_bit,
    do_round,
    inverse_chi,
    inverse_pi,
    inverse_rho,
    inverse_theta,
    iota,
    permute,
    permute_back,
    pi,
    rho,
    rotate,
    rotation_offset,
    round_constant,
    state_from_bytes,
    theta,
    undo_round,
)
from tests.tools import BAD_BYTES, ProgramTest, bad_list, out_of_range, refusal

TOP = 2 ** 64 - 1
PLACES = [(x, y) for y in range(5) for x in range(5)]

# The published lanes after all rounds on 25 zeros.
AFTER_ZEROS = [
    0xF1258F7940E1DDE7, 0x84D5CCF933C0478A, 0xD598261EA65AA9EE, 0xBD1547306F80494D, 0x8B284E056253D057,
    0xFF97A42D7F8E6FD4, 0x90FEE5A0A44647C4, 0x8C5BDA0CD6192E76, 0xAD30A6F71B19059C, 0x30935AB7D08FFC64,
    0xEB5AA93F2317D635, 0xA9A6E6260D712103, 0x81A57C16DBCF555F, 0x43B831CD0347C826, 0x01F22F1A11A5569F,
    0x05E5635A21D9AE61, 0x64BEFEF28CC970F2, 0x613670957BC46611, 0xB87C5A554FD00ECB, 0x8C3EE88A1CCF32C8,
    0x940C7922AE3A2614, 0x1841F924A2C509E4, 0x16F53526E70465C2, 0x75F644E97F30A13B, 0xEAF1FF7B5CECA249,
]

STEPS = [
    (theta, inverse_theta), (rho, inverse_rho), (pi, inverse_pi), (chi, inverse_chi),
]


def made_state(seed):
    """A state that looks random and is the same at each run."""
    data = hashlib.sha512(str(seed).encode()).digest() * 4
    mixed = [byte ^ hashlib.md5(bytes([place, seed % 256])).digest()[0] for place, byte in enumerate(data[:200])]
    return [int.from_bytes(bytes(mixed[8 * lane:8 * lane + 8]), "little") for lane in range(25)]


STATES = [made_state(seed) for seed in range(6)] + [[0] * 25, [TOP] * 25, list(range(25)), [TOP] + [0] * 24]
SINGLE_BITS = [[0] * lane + [1 << bit] + [0] * (24 - lane) for lane in range(25) for bit in (0, 1, 31, 62, 63)]
BAD_STATES = bad_list(0, TOP, list(range(25)))
BAD_ROUNDS = out_of_range("index", 0, 23)


# The rules of the document, written apart from the program, over dicts of lanes and lists of bits.

def turned(lane, count):
    return sum(1 << ((bit + count) % 64) for bit in range(64) if lane >> bit & 1)


def as_dict(state):
    return {(x, y): state[x + 5 * y] for x, y in PLACES}


def as_list(lanes):
    return [lanes[place] for place in PLACES]


def rule_parities(state):
    a = as_dict(state)
    return [a[x, 0] ^ a[x, 1] ^ a[x, 2] ^ a[x, 3] ^ a[x, 4] for x in range(5)]


def rule_theta(state):
    a, p = as_dict(state), rule_parities(state)
    d = [p[(x - 1) % 5] ^ turned(p[(x + 1) % 5], 1) for x in range(5)]
    return as_list({(x, y): a[x, y] ^ d[x] for x, y in PLACES})


def rule_offsets():
    found = {(0, 0): 0}
    x, y = 1, 0
    for t in range(24):
        found[x, y] = ((t + 1) * (t + 2) // 2) % 64
        x, y = y, (2 * x + 3 * y) % 5
    return found


def rule_rho(state):
    a, offsets = as_dict(state), rule_offsets()
    return as_list({place: turned(a[place], offsets[place]) for place in PLACES})


def rule_pi(state):
    a = as_dict(state)
    return as_list({(x, y): a[(x + 3 * y) % 5, x] for x, y in PLACES})


def rule_chi(state):
    a = as_dict(state)
    return as_list({
        (x, y): a[x, y] ^ ((TOP - a[(x + 1) % 5, y]) & a[(x + 2) % 5, y]) for x, y in PLACES
    })


def rule_bits():
    bits, register = [], 1
    for _ in range(255):
        bits.append(register % 2)
        register *= 2
        if register >= 256:
            register ^= 369
    return bits


def rule_constant(index):
    bits = rule_bits()
    return sum(bits[j + 7 * index] << (2 ** j - 1) for j in range(7))


def rule_iota(state, index):
    a = as_dict(state)
    a[0, 0] ^= rule_constant(index)
    return as_list(a)


def rule_round(state, index):
    return rule_iota(rule_chi(rule_pi(rule_rho(rule_theta(state)))), index)


def rule_permute(state, first, last):
    for index in range(first, last):
        state = rule_round(state, index)
    return state


class RotateTest(ProgramTest):

    def test_rotates(self):
        self.same(rotate(1, 0), 1)
        self.same(rotate(1, 1), 2)
        self.same(rotate(1, 63), 1 << 63)
        self.same(rotate(1, 64), 1)
        self.same(rotate(1, 65), 2)
        self.same(rotate(1, 1000), 1 << 40)
        self.same(rotate(1 << 63, 1), 1)
        self.same(rotate(TOP, 1000), TOP)
        self.same(rotate(0, 17), 0)

    def test_moves_each_bit(self):
        for lane in (*STATES[0][:4], 1, 1 << 63):
            for count in (*range(130), 999, 1000):
                self.same(rotate(lane, count), turned(lane, count))

    def test_calls(self):
        self.check_calls(rotate, {"lane": 3, "count": 2}, 12)

    def test_refusals(self):
        bad = {"lane": out_of_range("lane", 0, TOP), "count": out_of_range("count", 0, 1000)}
        self.check_refusals(rotate, {"lane": 3, "count": 2}, bad)


class StateBytesTest(ProgramTest):

    def test_lowest_bits_first(self):
        self.same(state_from_bytes([0] * 200), [0] * 25)
        self.same(state_from_bytes([255] * 200), [TOP] * 25)
        self.same(state_from_bytes([1, 2] + [0] * 197 + [3]), [513] + [0] * 23 + [3 << 56])
        self.same(bytes_from_state([513] + [0] * 23 + [3 << 56]), [1, 2] + [0] * 197 + [3])
        lane = 0x0807060504030201
        self.same(bytes_from_state([0, lane] + [0] * 23), [0] * 8 + [1, 2, 3, 4, 5, 6, 7, 8] + [0] * 184)

    def test_each_undoes_the_other(self):
        for state in STATES:
            data = list(b"".join(lane.to_bytes(8, "little") for lane in state))
            self.same(bytes_from_state(state), data)
            self.same(state_from_bytes(data), state)

    def test_calls(self):
        self.check_calls(state_from_bytes, {"data": [7] + [0] * 199}, [7] + [0] * 24)
        self.check_calls(bytes_from_state, {"state": [7] + [0] * 24}, [7] + [0] * 199)

    def test_refusals(self):
        bad = bad_list(0, 255, [1] * 200)
        self.check_refusals(state_from_bytes, {"data": [1] * 200}, {"data": bad})
        self.check_refusals(bytes_from_state, {"state": [1] * 25}, {"state": BAD_STATES})
        for data, _ in BAD_BYTES[:10]:
            self.same(refusal(state_from_bytes, data), ("BadLength", 200, len(data)))


class OffsetsTest(ProgramTest):

    def test_offsets_follow_from_the_rule(self):
        expected = rule_offsets()
        self.assertEqual(len(expected), 25)
        for x, y in PLACES:
            self.same(rotation_offset(x, y), expected[x, y])
        self.same([rotation_offset(0, 0), rotation_offset(1, 0), rotation_offset(0, 2)], [0, 1, 3])

    def test_constant_bits_follow_from_the_rule(self):
        self.same([constant_bit(step) for step in range(255)], rule_bits())

    def test_constants_follow_from_the_rule(self):
        self.same([round_constant(index) for index in range(24)], [rule_constant(index) for index in range(24)])
        self.same([round_constant(0), round_constant(1)], [1, 0x8082])
        self.same([round_constant(2), round_constant(23)], [0x800000000000808A, 0x8000000080008008])

    def test_calls(self):
        self.check_calls(rotation_offset, {"x": 2, "y": 1}, 6)
        self.check_calls(constant_bit, {"step": 8}, rule_bits()[8])
        self.check_calls(round_constant, {"index": 1}, 0x8082)

    def test_refusals(self):
        bad = {"x": out_of_range("x", 0, 4), "y": out_of_range("y", 0, 4)}
        self.check_refusals(rotation_offset, {"x": 4, "y": 0}, bad)
        self.check_refusals(constant_bit, {"step": 254}, {"step": out_of_range("step", 0, 254)})
        self.check_refusals(round_constant, {"index": 23}, {"index": BAD_ROUNDS})


class StepsTest(ProgramTest):

    def test_steps_follow_their_rules(self):
        for state in STATES + SINGLE_BITS:
            self.same(column_parities(state), rule_parities(state))
            self.same(theta(state), rule_theta(state))
            self.same(rho(state), rule_rho(state))
            self.same(pi(state), rule_pi(state))
            self.same(chi(state), rule_chi(state))

    def test_iota_follows_its_rule(self):
        for state, index in itertools.product(STATES, range(24)):
            self.same(iota(state, index), rule_iota(state, index))
            self.same(iota(iota(state, index), index), state)

    def test_inverses_behind_and_ahead(self):
        for state in STATES + SINGLE_BITS:
            for step, inverse in STEPS:
                self.same(inverse(step(state)), state)
                self.same(step(inverse(state)), state)

    def test_calls(self):
        state = STATES[0]
        for name in ("column_parities", "theta", "rho", "pi", "chi"):
            expected = globals()["rule_" + name.replace("column_", "")](state)
            self.check_calls(getattr(permutation, name), {"state": state}, expected)
        for step, inverse in STEPS:
            self.check_calls(inverse, {"state": step(state)}, state)
        self.check_calls(iota, {"state": state, "index": 23}, rule_iota(state, 23))

    def test_refusals(self):
        good = {"state": list(range(25))}
        for name in ("column_parities", "theta", "rho", "pi", "chi"):
            self.check_refusals(getattr(permutation, name), good, {"state": BAD_STATES})
        for _, inverse in STEPS:
            self.check_refusals(inverse, good, {"state": BAD_STATES})
        good["index"] = 5
        self.check_refusals(iota, good, {"state": BAD_STATES, "index": BAD_ROUNDS})


class RoundsTest(ProgramTest):

    def test_rounds_follow_their_rule(self):
        for state, index in itertools.product(STATES, (0, 1, 11, 22, 23)):
            self.same(do_round(state, index), rule_round(state, index))
            self.same(undo_round(rule_round(state, index), index), state)
            self.same(do_round(undo_round(state, index), index), state)

    def test_calls(self):
        state = STATES[1]
        after = rule_round(state, 23)
        self.check_calls(do_round, {"state": state, "index": 23}, after)
        self.check_calls(undo_round, {"state": after, "index": 23}, state)

    def test_refusals(self):
        good = {"state": list(range(25)), "index": 0}
        for function in (do_round, undo_round):
            self.check_refusals(function, good, {"state": BAD_STATES, "index": BAD_ROUNDS})


class PermuteTest(ProgramTest):

    def test_zeros(self):
        self.same(permute([0] * 25), AFTER_ZEROS)
        self.same(permute_back(AFTER_ZEROS), [0] * 25)

    def test_published_hash(self):
        block = [6] + [0] * 134 + [128] + [0] * 64
        after = bytes_from_state(permute(state_from_bytes(block)))
        self.assertEqual(bytes(after[:32]), hashlib.sha3_256(b"").digest())

    def test_parts(self):
        parts = [(0, 24), (0, 1), (23, 24), (3, 9), (0, 23), (1, 24), (12, 13)]
        for state, (first, last) in itertools.product(STATES[:3], parts):
            after = rule_permute(state, first, last)
            self.same(permute(state, first=first, last=last), after)
            self.same(permute_back(after, first=first, last=last), state)
            self.same(permute(permute_back(state, first=first, last=last), first=first, last=last), state)

    def test_no_round(self):
        for state, index in itertools.product(STATES, (0, 1, 12, 23, 24)):
            self.same(permute(state, first=index, last=index), state)
            self.same(permute_back(state, first=index, last=index), state)

    def test_defaults(self):
        state = STATES[2]
        after = rule_permute(state, 0, 24)
        self.same(permute(state), after)
        self.same(permute(state, last=24), after)
        self.same(permute(state, first=5), rule_permute(state, 5, 24))
        self.same(permute(state, last=5), rule_permute(state, 0, 5))
        self.same(permute_back(after), state)
        self.same(permute_back(after, first=5), rule_permute(state, 0, 5))
        self.same(permute(permute_back(state, last=5), last=5), state)

    def test_parts_follow_each_other(self):
        state = STATES[3]
        self.same(permute(permute(state, last=7), first=7), permute(state))
        self.same(permute_back(permute_back(state, first=7), last=7), permute_back(state))

    def test_calls(self):
        state = STATES[4]
        after = rule_permute(state, 2, 4)
        self.check_calls(permute, {"state": state, "first": 2, "last": 4}, after, keyword_only=2)
        self.check_calls(permute_back, {"state": after, "first": 2, "last": 4}, state, keyword_only=2)
        self.check_calls(permute, {"state": state, "first": 3, "last": 3}, state, keyword_only=2)
        self.check_calls(permute_back, {"state": state, "first": 3, "last": 3}, state, keyword_only=2)

    def test_refusals(self):
        good = {"state": list(range(25)), "first": 3, "last": 3}
        bad = {"state": BAD_STATES, "first": out_of_range("first", 0, 24), "last": out_of_range("last", 3, 24)}
        for function in (permute, permute_back):
            self.check_refusals(function, good, bad)
            self.check_refusals(function, {**good, "last": 24}, bad)
            self.same(refusal(function, [0] * 25, first=24, last=23), ("OutOfRange", "last"))
            self.same(refusal(function, [0] * 25, first=1, last=0), ("OutOfRange", "last"))
            self.same(refusal(function, [0] * 25, first=25), ("OutOfRange", "first"))
            self.same(refusal(function, [0] * 24, first=25), ("BadLength", 25, 24))


if __name__ == "__main__":
    unittest.main()
