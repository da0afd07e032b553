import hashlib
import itertools
import unittest

from noisebound.cipher import cipher_keys, decrypt, encrypt
from noisebound.exchange import (
    key_and_randomness, letter_fault, make_keys, other_key, public_fault, receive, receive_report, secret_fault,
    secret_parts, send,
)
from noisebound.hashes import hash_32, hash_64, stretch_256
from noisebound.noise import comes_back, noise_row
from noisebound.packing import pack, unpack
from noisebound.parameters import published, read_set_line, set_of
from tests.oracle import hash_of, stretched
from tests.sets import ALWAYS, MIDDLE, PUBLISHED, SMALL, SMALL_SETS, message_of, pair_of, seed_of, some_bytes
from tests.test_cipher import BAD_SEED, OTHER_SEED, SEED, TWO_ROWS
from tests.test_noise import bad_message
from tests.tools import HUGE, OTHER_KINDS, ProgramTest, refusal

# No bytes, built as [6] allows.
NO_BYTES = (*[value for value in OTHER_KINDS if value.__class__ not in (dict, float, bytes)], 256, -1, 1000, HUGE, -HUGE,
            [[0]], (0, 0), "noisebound", [(1, [None])], ((((((((1,),),),),),),),))


def spoiled_lists(good):
    """Pairs (list with wrong items, index of the first) of the length of good."""
    for value in NO_BYTES:
        for place in (0, 1, len(good) // 2, len(good) - 1):
            yield ([*good[:place], value, *good[place + 1:]], place)
    yield ([None] * len(good), 0)
    yield ([*good[:-3], 256, [], True], len(good) - 3)


def wrong_lengths(good):
    """Lists of other lengths, some of them with wrong items."""
    count = len(good)
    return [
        [], good[:-1], good[1:], [*good, 0], good * 2, [None] * (count + 1), [*good[:-2], "x"], [[]],
        [True] * (count - 1), [0] * 20000,
    ]


def bad_data(error, good):
    """Pairs (wrong list, refusal) for what is checked by its fault."""
    pairs = [(data, (error, "length", len(data))) for data in wrong_lengths(good)]
    return pairs + [(data, (error, "byte", place)) for data, place in spoiled_lists(good)]


def bad_public(oracle):
    """Pairs (wrong list, refusal) for a public key."""
    good = oracle.keys(SEED)[0]
    numbers = unpack(12, good[:-32])
    pairs = bad_data("BadKey", good)
    for place in (0, 1, len(numbers) // 2, len(numbers) - 1):
        for value in (oracle.q, oracle.q + 1, 4095):
            changed = pack(12, [*numbers[:place], value, *numbers[place + 1:]]) + good[-32:]
            pairs.append((changed, ("BadKey", "number", place)))
    changed = pack(12, [*numbers[:-3], oracle.q, 0, 4095]) + good[-32:]
    pairs.append((changed, ("BadKey", "number", len(numbers) - 3)))
    pairs.append(([*changed[:-1], 256], ("BadKey", "byte", len(good) - 1)))
    pairs.append((changed[:-1], ("BadKey", "length", len(good) - 1)))
    return pairs


def bad_secret(oracle):
    """Pairs (wrong list, refusal) for a secret key."""
    good = oracle.make_keys(SEED, OTHER_SEED)[1]
    start = len(good) - 64
    pairs = bad_data("BadKey", good)
    for place in (0, 1, 16, 31):
        changed = [*good[:start + place], good[start + place] ^ 1, *good[start + place + 1:]]
        pairs.append((changed, ("BadKey", "hash", start + place)))
        behind = [*changed[:start + 31], (good[start + 31] + 1) % 256, *changed[start + 32:]]
        pairs.append((behind, ("BadKey", "hash", start + place)))
        pairs.append(([*changed[:-1], None], ("BadKey", "byte", len(good) - 1)))
        pairs.append((changed[:-1], ("BadKey", "length", len(good) - 1)))
    return pairs


def bad_letter(oracle):
    """Pairs (wrong list, refusal) for a letter."""
    return bad_data("BadLetter", some_bytes("letter", oracle.letter_bytes))


class FaultTest(ProgramTest):

    def check_fault(self, function, params, data, expected):
        before = repr(data)
        self.same(function(params, data), expected)
        self.assertEqual(repr(data), before)

    def test_examples(self):
        params = read_set_line("8 97 33 1 1 1 7 4")
        found = [public_fault(params, [97] + [0] * 43), public_fault(params, [0] * 43 + [True]), letter_fault(params, [])]
        self.same(found, [("number", 0), ("byte", 43), ("length", 0)])

    def test_no_fault(self):
        for numbers in SMALL_SETS + PUBLISHED:
            params, oracle = pair_of(numbers)
            for number in range(3 if oracle.n <= 16 else 1):
                public_key, secret_key = make_keys(params, seed_of(number), seed_of(number + 1))
                self.check_fault(public_fault, params, public_key, None)
                self.check_fault(secret_fault, params, secret_key, None)
                for letter in ([0] * oracle.letter_bytes, [255] * oracle.letter_bytes, some_bytes(number, oracle.letter_bytes)):
                    self.check_fault(letter_fault, params, letter, None)

    def test_faults(self):
        for numbers in (SMALL, TWO_ROWS, (16, 97, 8, 4, 2, 3, 3, 5)):
            params, oracle = pair_of(numbers)
            for function, pairs in (
                (public_fault, bad_public(oracle)), (secret_fault, bad_secret(oracle)), (letter_fault, bad_letter(oracle)),
            ):
                for data, expected in pairs:
                    self.check_fault(function, params, data, expected[1:])

    def test_other_kinds_in_each_place(self):
        params, oracle = pair_of(SMALL)
        public_key, secret_key = oracle.make_keys(SEED, OTHER_SEED)
        letter = some_bytes("letter", oracle.letter_bytes)
        for function, good in ((public_fault, public_key), (secret_fault, secret_key), (letter_fault, letter)):
            for place, value in itertools.product(range(len(good)), (256, -1, True, None, [7], (7,), "7")):
                self.check_fault(function, params, [*good[:place], value, *good[place + 1:]], ("byte", place))

    def test_lengths_of_other_sets(self):
        for numbers, other in itertools.permutations((SMALL, TWO_ROWS, (16, 97, 8, 4, 2, 3, 3, 5), PUBLISHED[0]), 2):
            params, oracle = set_of(numbers), pair_of(other)[1]
            public_key, secret_key = [0] * oracle.public_bytes, [0] * oracle.secret_bytes
            self.check_fault(public_fault, params, public_key, ("length", len(public_key)))
            self.check_fault(secret_fault, params, secret_key, ("length", len(secret_key)))
            self.check_fault(letter_fault, params, [0] * oracle.letter_bytes, ("length", oracle.letter_bytes))

    def test_number_at_each_place(self):
        for numbers in (SMALL, (8, 17, 9, 2, 3, 1, 4, 5), (8, 4073, 514, 1, 1, 1, 11, 11)):
            params, oracle = pair_of(numbers)
            q, count = oracle.q, oracle.n * oracle.k
            for place in range(count):
                for value, fault in ((q - 1, None), (q, ("number", place)), (4095, ("number", place))):
                    data = pack(12, [q - 1] * place + [value] + [0] * (count - place - 1)) + SEED
                    self.check_fault(public_fault, params, data, fault)
            self.check_fault(public_fault, params, pack(12, [q] * count) + [255] * 32, ("number", 0))
            self.check_fault(public_fault, params, pack(12, [q - 1] * count) + [255] * 32, None)

    def test_hash_at_each_place(self):
        params, oracle = pair_of(TWO_ROWS)
        secret_key = make_keys(params, SEED, OTHER_SEED)[1]
        start = oracle.cipher_secret_bytes + oracle.public_bytes
        for place in range(32):
            for step in (1, 128, 255):
                bent = list(secret_key)
                bent[start + place] ^= step
                self.check_fault(secret_fault, params, bent, ("hash", start + place))
                bent[start + 31] = (secret_key[start + 31] + 1) % 256
                self.check_fault(secret_fault, params, bent, ("hash", start + place))

    def test_bent_public_part(self):
        # The first byte of the hash that differs tells the index, wherever the public part was bent.
        params, oracle = pair_of(TWO_ROWS)
        secret_key = make_keys(params, SEED, OTHER_SEED)[1]
        start, end = oracle.cipher_secret_bytes, oracle.cipher_secret_bytes + oracle.public_bytes
        seen = set()
        for place, step in itertools.product(range(start, end), (1, 2, 64)):
            bent = list(secret_key)
            bent[place] ^= step
            new = hash_of(bent[start:end], 32)
            first = next(index for index in range(32) if new[index] != bent[end + index])
            seen.add(first)
            self.check_fault(secret_fault, params, bent, ("hash", end + first))
        self.assertIn(1, seen)

    def test_parts_that_are_not_compared(self):
        params, oracle = pair_of(SMALL)
        public_key, secret_key = make_keys(params, SEED, OTHER_SEED)
        for cipher_secret in ([0] * 12, [255] * 12, some_bytes("secret", 12)):
            self.check_fault(secret_fault, params, cipher_secret + secret_key[12:], None)
        for fallback in ([0] * 32, [255] * 32):
            self.check_fault(secret_fault, params, secret_key[:-32] + fallback, None)
        great = [255] * oracle.public_bytes
        self.check_fault(secret_fault, params, [255] * 12 + great + hash_32(great) + SEED, None)
        self.check_fault(public_fault, params, great, ("number", 0))

    def test_calls(self):
        params = set_of(SMALL)
        public_key, secret_key = make_keys(params, SEED, OTHER_SEED)
        self.check_calls(public_fault, {"params": params, "public_key": public_key}, None)
        self.check_calls(public_fault, {"params": params, "public_key": [255] * 44}, ("number", 0))
        self.check_calls(secret_fault, {"params": params, "secret_key": secret_key}, None)
        self.check_calls(secret_fault, {"params": params, "secret_key": [None, [1]]}, ("length", 2))
        self.check_calls(letter_fault, {"params": params, "letter": [1] * 11}, None)
        self.check_calls(letter_fault, {"params": params, "letter": [1] * 10 + [[2]]}, ("byte", 10))


class KeysTest(ProgramTest):

    def test_against_the_rule(self):
        for numbers in SMALL_SETS + PUBLISHED:
            params, oracle = pair_of(numbers)
            for number in range(3 if oracle.n <= 16 else 1):
                seeds = (seed_of(number), seed_of(number + 5))
                public_key, secret_key = make_keys(params, *seeds)
                self.same((public_key, secret_key), oracle.make_keys(*seeds))
                self.same((len(public_key), len(secret_key)), (params.public_bytes, params.secret_bytes))
                both = cipher_keys(params, seeds[0])
                self.same(public_key, both[0])
                self.same(secret_parts(params, secret_key), (both[1], both[0], hash_32(both[0]), seeds[1]))

    def test_parts_of_any_key(self):
        params, oracle = pair_of(TWO_ROWS)
        for public in ([255] * oracle.public_bytes, some_bytes("public", oracle.public_bytes)):
            parts = (some_bytes("secret", oracle.cipher_secret_bytes), public, hash_32(public), SEED)
            self.same(secret_parts(params, [item for part in parts for item in part]), parts)

    def test_calls(self):
        params, oracle = pair_of(TWO_ROWS)
        good = {"params": params, "key_seed": SEED, "fallback_seed": OTHER_SEED}
        keys = oracle.make_keys(SEED, OTHER_SEED)
        self.check_calls(make_keys, good, keys)
        parts = (*oracle.keys(SEED)[::-1], hash_of(keys[0], 32), OTHER_SEED)
        self.check_calls(secret_parts, {"params": params, "secret_key": keys[1]}, parts)

    def test_refusals(self):
        params, oracle = pair_of(TWO_ROWS)
        good = {"params": params, "key_seed": SEED, "fallback_seed": OTHER_SEED}
        self.check_refusals(make_keys, good, {"key_seed": BAD_SEED, "fallback_seed": BAD_SEED})
        good = {"params": params, "secret_key": oracle.make_keys(SEED, OTHER_SEED)[1]}
        self.check_refusals(secret_parts, good, {"secret_key": bad_secret(oracle)})


class SendTest(ProgramTest):

    def test_against_the_rule(self):
        for numbers in SMALL_SETS + MIDDLE + PUBLISHED:
            params, oracle = pair_of(numbers)
            for number in range(4 if oracle.n <= 16 else 1):
                public_key = oracle.keys(seed_of(number))[0]
                message = message_of(number, oracle.message_bytes)
                both = hash_64(message + hash_32(public_key))
                self.same(key_and_randomness(params, public_key, message), (both[:32], both[32:]))
                self.same(key_and_randomness(params, public_key, message), oracle.key_and_randomness(public_key, message))
                self.same(send(params, public_key, message), oracle.send(public_key, message))
                letter = encrypt(params, public_key, message, both[32:])
                self.same(send(params, public_key, message), (both[:32], letter))

    def test_any_public_key_without_fault(self):
        for numbers in SMALL_SETS:
            params, oracle = pair_of(numbers)
            for vector in ([0], [oracle.q - 1], [oracle.q // 2, 1]):
                public_key = pack(12, vector * (oracle.n * oracle.k // len(vector))) + OTHER_SEED
                message = message_of(2, oracle.message_bytes)
                self.same(send(params, public_key, message), oracle.send(public_key, message))

    def test_calls(self):
        params, oracle = pair_of(TWO_ROWS)
        public_key = oracle.keys(SEED)[0]
        good = {"params": params, "public_key": public_key, "message": [17]}
        self.check_calls(key_and_randomness, good, oracle.key_and_randomness(public_key, [17]))
        self.check_calls(send, good, oracle.send(public_key, [17]))

    def test_refusals(self):
        for numbers in (SMALL, (16, 97, 8, 4, 2, 3, 3, 5)):
            params, oracle = pair_of(numbers)
            good = {"params": params, "public_key": oracle.keys(SEED)[0]}
            good["message"] = message_of(2, oracle.message_bytes)
            bad = {"public_key": bad_public(oracle), "message": bad_message(oracle)}
            self.check_refusals(key_and_randomness, good, bad)
            self.check_refusals(send, good, bad)


class ReceiveTest(ProgramTest):

    def check_letter(self, params, oracle, secret_key, letter, expected=None):
        report = oracle.receive_report(secret_key, letter)
        self.same(receive_report(params, secret_key, letter), report)
        self.same(receive(params, secret_key, letter), report[2])
        other = stretched([*secret_key[-32:], *letter], 32)
        self.same(other_key(params, secret_key, letter), other)
        self.assertEqual(report[3], "found" if report[1] == letter else "other")
        self.assertEqual(report[2] == other, report[3] == "other")
        if expected:
            self.same(report[3], expected)

    def test_sent_letters(self):
        for numbers in SMALL_SETS + MIDDLE + PUBLISHED:
            params, oracle = pair_of(numbers)
            for number in range(4 if oracle.n <= 16 else 1):
                seeds = (seed_of(number), seed_of(number + 5))
                public_key, secret_key = make_keys(params, *seeds)
                message = message_of(number, oracle.message_bytes)
                key, letter = send(params, public_key, message)
                self.check_letter(params, oracle, secret_key, letter)
                randomness = key_and_randomness(params, public_key, message)[1]
                if comes_back(params, message, noise_row(params, seeds[0], message, randomness)):
                    self.same(receive_report(params, secret_key, letter), (message, letter, key, "found"))
                    self.same(receive(params, secret_key, letter), key)
                elif numbers in ALWAYS + PUBLISHED:
                    self.fail(numbers)

    def test_every_message_in_always_sets(self):
        for numbers in ALWAYS[:3]:
            params, oracle = pair_of(numbers)
            public_key, secret_key = make_keys(params, SEED, OTHER_SEED)
            letters = {}
            for byte in range(0, 256, 1 if numbers == SMALL else 7):
                key, letter = send(params, public_key, [byte])
                self.same(receive(params, secret_key, letter), key)
                letters[tuple(letter)] = byte
            self.assertEqual(list(letters.values()), list(range(0, 256, 1 if numbers == SMALL else 7)))

    def test_each_byte_changed(self):
        params, oracle = pair_of(SMALL)
        public_key, secret_key = make_keys(params, SEED, OTHER_SEED)
        letter = send(params, public_key, [201])[1]
        for place, step in itertools.product(range(len(letter)), (1, 16, 128, 255)):
            self.check_letter(params, oracle, secret_key, [*letter[:place], letter[place] ^ step, *letter[place + 1:]])

    def test_each_byte_changed_in_published_set(self):
        params, oracle = pair_of(PUBLISHED[0])
        public_key, secret_key = make_keys(params, SEED, OTHER_SEED)
        letter = send(params, public_key, message_of(2, 32))[1]
        for place in (0, 1, 640, 767):
            bent = [*letter[:place], letter[place] ^ 128, *letter[place + 1:]]
            self.same(receive(params, secret_key, bent), stretch_256(OTHER_SEED + bent, 32))
            self.same(receive_report(params, secret_key, bent)[3], "other")
        self.check_letter(params, oracle, secret_key, [*letter[:5], letter[5] ^ 1, *letter[6:]], "other")

    def test_any_letters(self):
        for numbers in SMALL_SETS + MIDDLE:
            params, oracle = pair_of(numbers)
            secret_key = make_keys(params, SEED, OTHER_SEED)[1]
            count = oracle.letter_bytes
            for letter in ([0] * count, [255] * count, some_bytes("any", count), some_bytes("more", count)):
                self.check_letter(params, oracle, secret_key, letter)

    def test_any_secret_keys(self):
        # Numbers of twelve bits from q on stand in the secret part and in the public part.
        for numbers in SMALL_SETS:
            params, oracle = pair_of(numbers)
            letter = some_bytes("letter", oracle.letter_bytes)
            for number, byte in enumerate((0, 255, None)):
                public = some_bytes("p", oracle.public_bytes) if byte is None else [byte] * oracle.public_bytes
                secret = some_bytes("s", oracle.cipher_secret_bytes) if byte is None else [byte] * oracle.cipher_secret_bytes
                secret_key = secret + public + hash_of(public, 32) + seed_of(number)
                self.check_letter(params, oracle, secret_key, letter)
                # The remade letter is received as found, whatever the message was.
                self.check_letter(params, oracle, secret_key, receive_report(params, secret_key, letter)[1])

    def test_great_numbers_change_no_key(self):
        params, oracle = pair_of(SMALL)
        public_key, secret_key = make_keys(params, SEED, OTHER_SEED)
        great = pack(12, [number + 97 * 40 for number in unpack(12, secret_key[:12])])
        for byte in range(0, 256, 16):
            key, letter = send(params, public_key, [byte])
            self.same(receive(params, great + secret_key[12:], letter), key)
        raised = pack(12, [number + 97 * 40 for number in unpack(12, public_key[:12])]) + public_key[12:]
        self.same(public_fault(params, raised), ("number", 0))
        bent = secret_key[:12] + raised + hash_of(raised, 32) + OTHER_SEED
        key, randomness = oracle.key_and_randomness(raised, [9])
        letter = oracle.encrypt(raised, [9], randomness)
        self.check_letter(params, oracle, bent, letter, "found")
        self.same(receive(params, bent, letter), key)

    def test_another_message_with_the_same_letter(self):
        # In a noisy set the found message can be another one and still have this letter: its key is the received one.
        params, oracle = pair_of((8, 17, 2, 1, 1, 1, 1, 1))
        found = 0
        for number in range(40):
            public_key, secret_key = make_keys(params, seed_of(number), OTHER_SEED)
            for byte in range(0, 256, 5):
                key, letter = send(params, public_key, [byte])
                message, _, received, word = receive_report(params, secret_key, letter)
                if word == "found" and message != [byte]:
                    found += 1
                    self.same(received, send(params, public_key, message)[0])
                    self.assertNotEqual(received, key)
                    self.check_letter(params, oracle, secret_key, letter, "found")
            if found:
                break
        self.assertGreater(found, 0)

    def test_other_key_of_fallback_and_letter(self):
        params, oracle = pair_of(SMALL)
        letter = some_bytes("letter", oracle.letter_bytes)
        expected = stretch_256(OTHER_SEED + letter, 32)
        for number in range(4):
            secret_key = make_keys(params, seed_of(number), OTHER_SEED)[1]
            self.same(other_key(params, secret_key, letter), expected)
        for place in range(len(letter)):
            bent = [*letter[:place], letter[place] ^ 1, *letter[place + 1:]]
            self.same(other_key(params, secret_key, bent), stretch_256(OTHER_SEED + bent, 32))
        # Also for a letter that is received as found.
        public_key, secret_key = make_keys(params, SEED, OTHER_SEED)
        key, letter = send(params, public_key, [3])
        self.same(other_key(params, secret_key, letter), stretch_256(OTHER_SEED + letter, 32))
        self.assertNotEqual(other_key(params, secret_key, letter), key)

    def test_calls(self):
        params, oracle = pair_of(TWO_ROWS)
        public_key, secret_key = oracle.make_keys(SEED, OTHER_SEED)
        key, letter = oracle.send(public_key, [64])
        good = {"params": params, "secret_key": secret_key, "letter": letter}
        self.check_calls(receive, good, key)
        self.check_calls(other_key, good, stretched(OTHER_SEED + letter, 32))
        self.check_calls(receive_report, good, ([64], letter, key, "found"))
        self.check_calls(receive, {**good, "letter": [0] * len(letter)}, oracle.receive_report(secret_key, [0] * len(letter))[2])

    def test_refusals(self):
        for numbers in (SMALL, TWO_ROWS):
            params, oracle = pair_of(numbers)
            good = {"params": params, "secret_key": oracle.make_keys(SEED, OTHER_SEED)[1]}
            good["letter"] = some_bytes("letter", oracle.letter_bytes)
            bad = {"secret_key": bad_secret(oracle), "letter": bad_letter(oracle)}
            for function in (receive, other_key, receive_report):
                self.check_refusals(function, good, bad)

    def test_hash_before_letter(self):
        params, oracle = pair_of(SMALL)
        secret_key = make_keys(params, SEED, OTHER_SEED)[1]
        bent = [*secret_key[:56], secret_key[56] ^ 1, *secret_key[57:]]
        for letter in ([], [256] * 11, [None]):
            for function in (receive, other_key, receive_report):
                self.same(refusal(function, params, bent, letter), ("BadKey", "hash", 56))
                self.assertEqual(refusal(function, params, secret_key, letter)[0], "BadLetter")


class PublishedTest(ProgramTest):

    def test_accumulated(self):
        # A hundred exchanges whose inputs are one stretched stream, and the known hash of all that they give.
        params = published("ML-KEM-768")
        count = 64 + 32 + params.letter_bytes
        stream = list(hashlib.shake_128().digest(100 * count))
        told = hashlib.shake_128()
        for start in range(0, len(stream), count):
            public_key, secret_key = make_keys(params, stream[start:start + 32], stream[start + 32:start + 64])
            key, letter = send(params, public_key, stream[start + 64:start + 96])
            self.assertEqual(receive(params, secret_key, letter), key)
            other = receive(params, secret_key, stream[start + 96:start + count])
            told.update(bytes(public_key + letter + key + other))
        self.assertEqual(told.hexdigest(32), "1114b1b6699ed191734fa339376afa7e285c9e6acf6ff0177d346696ce564415")

    def test_messages_come_back(self):
        for numbers in PUBLISHED:
            params = set_of(numbers)
            public_key, secret_key = make_keys(params, SEED, OTHER_SEED)
            for number in range(3):
                key, letter = send(params, public_key, message_of(number, 32))
                self.same(receive_report(params, secret_key, letter), (message_of(number, 32), letter, key, "found"))
                self.same(decrypt(params, secret_key[:params.cipher_secret_bytes], letter), message_of(number, 32))


if __name__ == "__main__":
    unittest.main()
