import hashlib
import itertools
import random
import unittest

from noisebound.exchange import make_keys, receive, send
from noisebound.hashes import stretch_256
from noisebound.records import Channel, Mailbox, chain_key, record_key, seal, unseal
from noisebound.parameters import set_of
from tests.oracle import stretched
from tests.sets import PUBLISHED, SMALL, SMALL_SETS, message_of, pair_of, seed_of, some_bytes
from tests.test_cipher import BAD_SEED, OTHER_SEED, SEED, TWO_ROWS
from tests.test_exchange import bad_letter
from tests.tools import BAD_BYTES, HUGE, OTHER_KINDS, ProgramTest, out_of_range, refusal, spoil

GREATEST = 2 ** 32 - 1
NUMBERS = (0, 1, 255, 256, 65535, 65536, 0x01020304, 2 ** 31, GREATEST)
BODIES = ([], [0], [255], [1, 2, 3], some_bytes("body", 32), some_bytes("body", 136), some_bytes("body", 137))
BAD_SIDE = out_of_range("side", 0, 1)
BAD_NUMBER = out_of_range("number", 0, GREATEST)


def key_by_rule(session_key, side, number):
    return stretched([*session_key, side, *number.to_bytes(4, "little")], 32)


def record_by_rule(session_key, side, number, body):
    key = key_by_rule(session_key, side, number)
    covered = [one ^ two for one, two in zip(body, stretched([*key, 1], len(body)))]
    return [*number.to_bytes(4, "little"), *covered, *stretched([*key, 2, *covered], 32)]


class RecordKeyTest(ProgramTest):

    def test_against_the_stretcher(self):
        for number, side in itertools.product(NUMBERS, (0, 1)):
            for session_key in (SEED, [0] * 32, [255] * 32):
                found = record_key(session_key, side, number)
                self.same(found, key_by_rule(session_key, side, number))
        self.same(record_key(SEED, 1, 0x01020304), stretch_256([*SEED, 1, 4, 3, 2, 1], 32))

    def test_calls(self):
        good = {"session_key": SEED, "side": 1, "number": 7}
        self.check_calls(record_key, good, key_by_rule(SEED, 1, 7))

    def test_refusals(self):
        good = {"session_key": SEED, "side": 1, "number": 7}
        self.check_refusals(record_key, good, {"session_key": BAD_SEED, "side": BAD_SIDE, "number": BAD_NUMBER})


class SealTest(ProgramTest):

    def test_against_the_rule(self):
        for body, side, number in itertools.product(BODIES, (0, 1), NUMBERS):
            record = seal(SEED, side, number, body)
            self.same(record, record_by_rule(SEED, side, number, body))
            self.same(len(record), len(body) + 36)
            self.same(unseal(SEED, side, record), (number, body))

    def test_long_bodies(self):
        for count in (1000, 5000, 10000):
            body = some_bytes("long", count)
            record = seal(SEED, 0, 3, body)
            self.same(record, record_by_rule(SEED, 0, 3, body))
            self.same(unseal(SEED, 0, record), (3, body))

    def test_calls(self):
        good = {"session_key": SEED, "side": 0, "number": 300, "body": [1, 2, 3]}
        self.check_calls(seal, good, record_by_rule(SEED, 0, 300, [1, 2, 3]))
        record = record_by_rule(SEED, 0, 300, [1, 2, 3])
        self.check_calls(unseal, {"session_key": SEED, "side": 0, "record": record}, (300, [1, 2, 3]))

    def test_refusals(self):
        good = {"session_key": SEED, "side": 0, "number": 300, "body": [1, 2, 3]}
        bad = {"session_key": BAD_SEED, "side": BAD_SIDE, "number": BAD_NUMBER, "body": BAD_BYTES}
        self.check_refusals(seal, good, bad)
        good = {"session_key": SEED, "side": 0, "record": record_by_rule(SEED, 0, 300, [1, 2, 3])}
        records = [(good["record"][:35], ("BadRecord", "length")), ([0] * 36, ("BadRecord", "tag")), *BAD_BYTES]
        bad = {"session_key": BAD_SEED, "side": BAD_SIDE, "record": records}
        self.check_refusals(unseal, good, bad)


class UnsealTest(ProgramTest):

    def test_short_records(self):
        record = record_by_rule(SEED, 1, 5, [])
        self.same(len(record), 36)
        self.same(unseal(SEED, 1, record), (5, []))
        for count in range(36):
            self.same(refusal(unseal, SEED, 1, record[:count]), ("BadRecord", "length"))
            self.same(refusal(unseal, SEED, 1, [0] * count), ("BadRecord", "length"))
        longer = record_by_rule(SEED, 1, 5, [1, 2, 3])
        for count in range(len(longer)):
            fault = "length" if count < 36 else "tag"
            self.same(refusal(unseal, SEED, 1, longer[:count]), ("BadRecord", fault))
            self.same(refusal(unseal, SEED, 1, longer[len(longer) - count:]), ("BadRecord", fault))
        self.same(refusal(unseal, SEED, 1, [*record, 0]), ("BadRecord", "tag"))
        self.same(refusal(unseal, SEED, 1, [0, *record]), ("BadRecord", "tag"))

    def test_each_byte_changed(self):
        for body in ([], [7], [1, 2, 3, 4, 5]):
            record = record_by_rule(SEED, 0, 258, body)
            for place, step in itertools.product(range(len(record)), (1, 128, 255)):
                bent = [*record[:place], record[place] ^ step, *record[place + 1:]]
                self.same(refusal(unseal, SEED, 0, bent), ("BadRecord", "tag"))

    def test_other_key_side_or_number(self):
        record = record_by_rule(SEED, 0, 258, [1, 2, 3])
        self.same(refusal(unseal, OTHER_SEED, 0, record), ("BadRecord", "tag"))
        self.same(refusal(unseal, SEED, 1, record), ("BadRecord", "tag"))
        other = record_by_rule(SEED, 0, 259, [1, 2, 3])
        self.same(refusal(unseal, SEED, 0, other[:4] + record[4:]), ("BadRecord", "tag"))
        self.same(refusal(unseal, SEED, 0, record[:-32] + other[-32:]), ("BadRecord", "tag"))
        self.same(unseal(SEED, 0, other), (259, [1, 2, 3]))

    def test_any_body_with_its_tag(self):
        # A record that another program made is opened if its tag follows from the other bytes.
        chance = random.Random(80)
        for count in (0, 1, 40, 200):
            covered = [chance.randrange(256) for _ in range(count)]
            key = key_by_rule(SEED, 1, 9)
            record = [9, 0, 0, 0, *covered, *stretched([*key, 2, *covered], 32)]
            body = [one ^ two for one, two in zip(covered, stretched([*key, 1], count))]
            self.same(unseal(SEED, 1, record), (9, body))

    def test_bad_items_before_the_length(self):
        self.same(refusal(unseal, SEED, 0, [256]), ("BadItem", 0))
        self.same(refusal(unseal, SEED, 0, [0, None]), ("BadItem", 1))


class ChainTest(ProgramTest):

    def test_steps(self):
        for start in (SEED, [0] * 32, [255] * 32):
            expected = list(start)
            for steps in range(65):
                self.same(chain_key(start, steps), expected)
                expected = list(hashlib.shake_256(bytes([*expected, 9])).digest(32))

    def test_steps_join(self):
        for first, second in ((0, 5), (5, 0), (3, 4), (30, 34)):
            self.same(chain_key(chain_key(SEED, first), second), chain_key(SEED, first + second))

    def test_calls(self):
        self.check_calls(chain_key, {"key": SEED, "steps": 0}, SEED)
        self.check_calls(chain_key, {"key": SEED, "steps": 2}, chain_key(SEED, 2))

    def test_refusals(self):
        good = {"key": SEED, "steps": 3}
        self.check_refusals(chain_key, good, {"key": BAD_SEED, "steps": out_of_range("steps", 0, 64)})


class ChannelTest(ProgramTest):

    def test_sealing(self):
        for side in (0, 1):
            channel = Channel(SEED, side)
            self.same((channel.side, channel.sent, channel.taken), (side, 0, []))
            for number in range(300):
                body = [number % 256] * (number % 5)
                self.same(channel.seal_next(body), record_by_rule(SEED, side, number, body))
                self.same((channel.side, channel.sent, channel.taken), (side, number + 1, []))

    def test_taking_in_any_order(self):
        for side in (0, 1):
            sender, channel = Channel(SEED, side), Channel(SEED, 1 - side)
            records = [sender.seal_next([number] * number) for number in range(8)]
            taken = []
            for number in (5, 0, 7, 2, 1, 6):
                self.same(channel.take(records[number]), (number, [number] * number))
                taken = sorted([*taken, number])
                self.same(channel.taken, taken)
                spoil([channel.taken])
                for repeated in taken:
                    self.same(refusal(channel.take, records[repeated]), ("BadRecord", "repeated"))
            self.same((channel.taken, channel.sent), ([0, 1, 2, 5, 6, 7], 0))
            self.same((sender.taken, sender.sent), ([], 8))

    def test_any_numbers(self):
        channel = Channel(SEED, 0)
        for count, number in enumerate(reversed(NUMBERS)):
            self.same(channel.take(record_by_rule(SEED, 1, number, [number % 256])), (number, [number % 256]))
            self.same(channel.taken, sorted(NUMBERS[len(NUMBERS) - 1 - count:]))
        self.same(refusal(channel.take, record_by_rule(SEED, 1, GREATEST, [])), ("BadRecord", "repeated"))

    def test_another_body_with_a_taken_number(self):
        channel = Channel(SEED, 0)
        channel.take(record_by_rule(SEED, 1, 4, [1]))
        self.same(refusal(channel.take, record_by_rule(SEED, 1, 4, [2, 3])), ("BadRecord", "repeated"))

    def test_wrong_tag_before_repeated(self):
        channel = Channel(SEED, 0)
        record = record_by_rule(SEED, 1, 4, [1])
        channel.take(record)
        for place in range(4, len(record)):
            bent = [*record[:place], record[place] ^ 1, *record[place + 1:]]
            self.same(refusal(channel.take, bent), ("BadRecord", "tag"))
        self.same(refusal(channel.take, record[:35]), ("BadRecord", "length"))
        self.same(refusal(channel.take, record), ("BadRecord", "repeated"))

    def test_own_side(self):
        channel, other = Channel(SEED, 0), Channel(SEED, 1)
        own = channel.seal_next([1, 2])
        self.same(refusal(channel.take, own), ("BadRecord", "tag"))
        # With its number taken too, the tag is still what is wrong.
        channel.take(other.seal_next([3]))
        self.same(refusal(channel.take, own), ("BadRecord", "tag"))
        self.same(channel.taken, [0])

    def test_errors_between(self):
        sender, channel = Channel(SEED, 1), Channel(SEED, 0)
        records = [sender.seal_next([number]) for number in range(4)]
        for number, record in enumerate(records):
            bent = [*record[:-1], record[-1] ^ 1]
            for wrong, expected in (
                ([], ("BadRecord", "length")), (bent, ("BadRecord", "tag")), ([*record, 256], ("BadItem", 37)),
                ([True, *record], ("BadItem", 0)),
            ):
                self.same(refusal(channel.take, wrong), expected)
                self.same((channel.taken, channel.sent), (list(range(number)), 0))
            self.same(channel.take(record), (number, [number]))

    def test_a_body_that_raises_uses_no_number(self):
        channel = Channel(SEED, 1)
        for number in range(3):
            for body, expected in BAD_BYTES:
                self.same(refusal(channel.seal_next, body), expected)
            self.same(channel.sent, number)
            self.same(channel.seal_next([9]), record_by_rule(SEED, 1, number, [9]))

    def test_kinds_of_records(self):
        channel = Channel(SEED, 1)
        for record, expected in BAD_BYTES:
            before = repr(record)
            self.same(refusal(channel.take, record), expected)
            self.same(refusal(channel.take, record=record), expected)
            self.assertEqual(repr(record), before)
        self.same((channel.taken, channel.sent), ([], 0))

    def test_keywords_and_refusals(self):
        good = {"session_key": SEED, "side": 1}
        channel = Channel(**good)
        self.same(channel.seal_next(body=[1]), record_by_rule(SEED, 1, 0, [1]))
        self.same(channel.take(record=record_by_rule(SEED, 0, 6, [])), (6, []))
        self.check_refusals(Channel, good, {"session_key": BAD_SEED, "side": BAD_SIDE})

    def test_copies(self):
        key, body = list(SEED), [1, 2, 3]
        channel = Channel(key, 0)
        spoil([key])
        record = channel.seal_next(body)
        spoil([body, record])
        self.same(channel.seal_next([]), record_by_rule(SEED, 0, 1, []))
        record = record_by_rule(SEED, 1, 0, [5])
        number, found = channel.take(record)
        spoil([found, record])
        self.same(refusal(channel.take, record_by_rule(SEED, 1, 0, [5])), ("BadRecord", "repeated"))

    def test_two_channels(self):
        first, second = Channel(SEED, 0), Channel(SEED, 0)
        first.seal_next([])
        first.take(record_by_rule(SEED, 1, 0, []))
        self.same((second.sent, second.taken), (0, []))
        self.same(second.take(record_by_rule(SEED, 1, 0, [])), (0, []))
        self.same((first.sent, first.taken, second.sent), (1, [0], 0))


class MailboxTest(ProgramTest):

    def letters(self, numbers, count=6):
        """Sent letters, any letters, and letters with one byte changed."""
        params, oracle = pair_of(numbers)
        public_key = make_keys(params, SEED, OTHER_SEED)[0]
        sent = [send(params, public_key, message_of(number, oracle.message_bytes))[1] for number in range(count)]
        bent = [[*letter[:1], letter[1] ^ 1, *letter[2:]] for letter in sent]
        letters = [*sent, *bent, [0] * oracle.letter_bytes, some_bytes("letter", oracle.letter_bytes)]
        return [letter for place, letter in enumerate(letters) if letter not in letters[:place]]

    def check_mailbox(self, mailbox, letters, keys):
        """What a mailbox tells when these distinct letters were taken."""
        self.same(len(mailbox), len(letters))
        self.same(list(mailbox), ["".join(f"{byte:02x}" for byte in key) for key in keys])
        self.same([text for text in mailbox], list(mailbox))
        self.same([mailbox.key_of(number) for number in range(len(letters))], keys)
        for letter in letters:
            self.assertIs(letter in mailbox, True)
        for name, value in (("number", len(letters)), ("number", -1)):
            self.same(refusal(mailbox.key_of, value), ("OutOfRange", name))

    def test_taking(self):
        for numbers in (*SMALL_SETS, PUBLISHED[0]):
            params, oracle = pair_of(numbers)
            public_key, secret_key = make_keys(params, SEED, OTHER_SEED)
            mailbox = Mailbox(params, SEED, OTHER_SEED)
            self.same(mailbox.public_key, public_key)
            self.check_mailbox(mailbox, [], [])
            letters, keys = [], []
            for letter in self.letters(numbers, 3):
                self.assertIs(letter in mailbox, False)
                key = oracle.receive_report(secret_key, letter)[2] if oracle.n < 64 else receive(params, secret_key, letter)
                passed = list(letter)
                found = mailbox.take(passed)
                self.same(found, (len(letters), key))
                spoil([found, passed])
                letters.append(letter)
                keys.append(key)
                self.check_mailbox(mailbox, letters, keys)

    def test_orders(self):
        chance = random.Random(83)
        params = set_of(SMALL)
        secret_key = make_keys(params, SEED, OTHER_SEED)[1]
        letters = self.letters(SMALL)
        keys = {tuple(letter): receive(params, secret_key, letter) for letter in letters}
        for _ in range(12):
            mailbox, seen = Mailbox(params, SEED, OTHER_SEED), []
            for _ in range(30):
                letter = chance.choice(letters)
                if letter not in seen:
                    self.assertIs(letter in mailbox, False)
                    seen.append(letter)
                self.same(mailbox.take(letter), (seen.index(letter), keys[tuple(letter)]))
                self.same(len(mailbox), len(seen))
            self.check_mailbox(mailbox, seen, [keys[tuple(letter)] for letter in seen])

    def test_sent_letters_open(self):
        params = set_of(SMALL)
        mailbox = Mailbox(params, SEED, OTHER_SEED)
        for number in range(20):
            key, letter = send(params, mailbox.public_key, [13 * number])
            self.same(mailbox.take(letter), (number, key))
            self.same(mailbox.key_of(number), key)

    def test_letters_with_a_fault(self):
        params, oracle = pair_of(SMALL)
        mailbox = Mailbox(params, SEED, OTHER_SEED)
        letters = self.letters(SMALL, 2)
        keys = [mailbox.take(letter)[1] for letter in letters]
        for letter, expected in bad_letter(oracle):
            before = repr(letter)
            self.same(refusal(mailbox.take, letter), expected)
            self.same(refusal(mailbox.take, letter=letter), expected)
            self.assertEqual(repr(letter), before)
        self.check_mailbox(mailbox, letters, keys)
        # What was refused gets no number.
        self.same(mailbox.take([9] * 11)[0], len(letters))

    def test_lists_of_any_length(self):
        params, oracle = pair_of(SMALL)
        mailbox = Mailbox(params, SEED, OTHER_SEED)
        letters = self.letters(SMALL, 2)
        for letter in letters:
            mailbox.take(letter)
        for data in ([], [0], letters[0][:-1], [*letters[0], 0], [0] * 10, [0] * 12, [255] * 20000, [1] * 11):
            self.assertIs(data in mailbox, False)
            self.assertIs(data not in mailbox, True)
        self.assertIs([0] * 11 in mailbox, True)
        for data, expected in BAD_BYTES + [([*letters[0][:-1], True], ("BadItem", 10)), ([False] * 11, ("BadItem", 0))]:
            before = repr(data)
            self.same(refusal(lambda: data in mailbox), expected)
            self.same(refusal(lambda: data not in mailbox), expected)
            self.assertEqual(repr(data), before)
        self.same(len(mailbox), len(letters))

    def test_key_of(self):
        params = set_of(SMALL)
        mailbox = Mailbox(params, SEED, OTHER_SEED)
        for value in (0, -1, 1, True, None, HUGE):
            self.same(refusal(mailbox.key_of, value), ("OutOfRange", "number"))
        letters = self.letters(SMALL, 2)
        for letter in letters:
            mailbox.take(letter)
        for value in (len(letters), -1, 1000, HUGE, -HUGE, *OTHER_KINDS):
            self.same(refusal(mailbox.key_of, value), ("OutOfRange", "number"))
            self.same(refusal(mailbox.key_of, number=value), ("OutOfRange", "number"))
        self.same(mailbox.key_of(number=0), mailbox.take(letters[0])[1])
        self.same(mailbox.key_of(len(letters) - 1), mailbox.take(letters[-1])[1])

    def test_new_lists(self):
        params = set_of(SMALL)
        mailbox = Mailbox(params, SEED, OTHER_SEED)
        letters = self.letters(SMALL, 2)
        keys = [list(mailbox.take(letter)[1]) for letter in letters]
        for _ in range(2):
            spoil([mailbox.public_key, mailbox.key_of(0), mailbox.take(letters[1]), list(mailbox)])
            self.check_mailbox(mailbox, letters, keys)
            self.same(mailbox.public_key, make_keys(params, SEED, OTHER_SEED)[0])

    def test_iterating_twice(self):
        mailbox = Mailbox(set_of(SMALL), SEED, OTHER_SEED)
        for letter in self.letters(SMALL, 2):
            mailbox.take(letter)
        texts = list(mailbox)
        self.same([(one, two) for one in mailbox for two in mailbox], list(itertools.product(texts, repeat=2)))
        self.same([len(text) for text in texts], [64] * len(mailbox))

    def test_keywords_and_refusals(self):
        good = {"params": set_of(TWO_ROWS), "key_seed": SEED, "fallback_seed": OTHER_SEED}
        expected = make_keys(set_of(TWO_ROWS), SEED, OTHER_SEED)[0]
        self.same(Mailbox(**good).public_key, expected)
        self.same(Mailbox(set_of(TWO_ROWS), SEED, fallback_seed=OTHER_SEED).public_key, expected)
        self.check_refusals(Mailbox, good, {"key_seed": BAD_SEED, "fallback_seed": BAD_SEED})

    def test_what_is_given(self):
        seeds = [list(SEED), list(OTHER_SEED)]
        mailbox = Mailbox(set_of(SMALL), *seeds)
        spoil(seeds)
        secret_key = make_keys(set_of(SMALL), SEED, OTHER_SEED)[1]
        self.same(mailbox.take([3] * 11), (0, receive(set_of(SMALL), secret_key, [3] * 11)))

    def test_two_mailboxes(self):
        first, second = Mailbox(set_of(SMALL), SEED, OTHER_SEED), Mailbox(set_of(SMALL), SEED, seed_of(5))
        first.take([3] * 11)
        self.same((len(first), len(second), [3] * 11 in second), (1, 0, False))
        second.take([4] * 11)
        self.assertNotEqual(first.take([4] * 11)[1], second.key_of(0))
        self.same((len(first), len(second)), (2, 1))


if __name__ == "__main__":
    unittest.main()
