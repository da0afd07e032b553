import copy
import itertools
import random
import unittest

from noisebound.ends import Answerer, Starter, finish_bytes, hello_bytes, reply_bytes, tag_of
from noisebound.exchange import make_keys, receive, send
from noisebound.hashes import stretch_256
from noisebound.packing import pack
from noisebound.parameters import set_of
from tests.oracle import AnswererModel, StarterModel, tag_by_rule
from tests.sets import (
    ALWAYS, MIDDLE, NOISY, PUBLISHED, SMALL, SMALL_SETS, message_of, pair_of, seed_of, some_bytes,
)
from tests.test_cipher import BAD_SEED, OTHER_SEED, SEED, TWO_ROWS
from tests.test_noise import bad_message
from tests.tools import BAD_BYTES, ProgramTest, bad_list, out_of_range, refusal, spoil

# A hello and a finish have the same length here.
SAME_LENGTH = (8, 97, 33, 1, 1, 1, 7, 5)
SEEDS = (SEED, OTHER_SEED)
STARTER_STATES = ("new", "waiting", "done", "closed")
ANSWERER_STATES = ("new", "replied", "done", "closed")


def bent(data, place, step=1):
    """A byte list that is right but for one byte."""
    return [*data[:place], data[place] ^ step, *data[place + 1:]]


class LengthsTest(ProgramTest):

    def test_sums(self):
        for numbers in (*SMALL_SETS, *MIDDLE, *PUBLISHED, SAME_LENGTH):
            params, oracle = pair_of(numbers)
            self.same(hello_bytes(params), 1 + oracle.public_bytes)
            self.same(reply_bytes(params), 33 + oracle.public_bytes + oracle.letter_bytes)
            self.same(finish_bytes(params), 33 + oracle.letter_bytes)

    def test_numbers(self):
        found = [(hello_bytes(set_of(numbers)), reply_bytes(set_of(numbers)), finish_bytes(set_of(numbers)))
                 for numbers in (SMALL, SAME_LENGTH, *PUBLISHED)]
        self.same(found, [(45, 88, 44), (45, 89, 45), (801, 1601, 801), (1185, 2305, 1121), (1569, 3169, 1601)])

    def test_calls(self):
        for function, expected in ((hello_bytes, 45), (reply_bytes, 88), (finish_bytes, 44)):
            self.check_calls(function, {"params": set_of(SMALL)}, expected)


class TagTest(ProgramTest):

    def test_against_the_stretcher(self):
        for number, counts in itertools.product((0, 1, 2, 3, 128, 255), ((0, 0), (0, 5), (44, 11), (200, 136))):
            public_key, letter = [some_bytes((number, count), count) for count in counts]
            expected = stretch_256(SEED + [number] + public_key + letter, 32)
            self.same(tag_of(SEED, number, public_key, letter), expected)
            self.same(expected, tag_by_rule(SEED, number, public_key, letter))

    def test_long(self):
        public_key, letter = some_bytes("public", 20000), some_bytes("letter", 20000)
        self.same(tag_of(SEED, 2, public_key, letter), tag_by_rule(SEED, 2, public_key, letter))

    def test_calls(self):
        good = {"key": SEED, "number": 2, "public_key": [1, 2, 3], "letter": [4]}
        self.check_calls(tag_of, good, tag_by_rule(SEED, 2, [1, 2, 3], [4]))

    def test_refusals(self):
        good = {"key": SEED, "number": 2, "public_key": [1, 2, 3], "letter": [4]}
        bad = {"key": BAD_SEED, "number": out_of_range("number", 0, 255), "public_key": BAD_BYTES, "letter": BAD_BYTES}
        self.check_refusals(tag_of, good, bad)


class EndTest(ProgramTest):

    def check_same(self, end, model):
        self.same((end.state, end.key), (model.state, model.key))

    def check_take(self, end, model, data):
        """Take a byte list at an end and at its model; changing the list or the answer later has no effect."""
        passed = list(data)
        found = end.take(passed)
        self.assertEqual(passed, data)
        self.same(found, model.take(list(data)))
        kept = copy.deepcopy(found)
        spoil([passed, found[1] or [0], end.key or [0]])
        self.check_same(end, model)
        return kept

    def starter_in(self, numbers, state, message=(201,)):
        """A starter and its model in a state."""
        params, oracle = pair_of(numbers)
        starter, model = Starter(params, *SEEDS), StarterModel(oracle, *SEEDS)
        if state == "new":
            return (starter, model)
        self.same(starter.start(), model.start())
        if state != "waiting":
            reply = self.reply_for(numbers, message)
            self.check_take(starter, model, reply if state == "done" else bent(reply, len(reply) - 1))
        self.same(starter.state, state)
        return (starter, model)

    def answerer_in(self, numbers, state, message=(201,)):
        """An answerer and its model in a state."""
        params, oracle = pair_of(numbers)
        message = list(message) * oracle.message_bytes
        answerer, model = Answerer(params, message), AnswererModel(oracle, message)
        if state == "new":
            return (answerer, model)
        self.check_take(answerer, model, self.hello_for(numbers))
        if state != "replied":
            finish = self.finish_for(numbers, message[:1])
            self.check_take(answerer, model, finish if state == "done" else bent(finish, len(finish) - 1))
        self.same(answerer.state, state)
        return (answerer, model)

    def hello_for(self, numbers, seed=SEED):
        return [1, *pair_of(numbers)[1].keys(seed)[0]]

    def reply_for(self, numbers, message=(201,), seed=SEED):
        oracle = pair_of(numbers)[1]
        public_key = oracle.keys(seed)[0]
        key, letter = oracle.send(public_key, list(message) * oracle.message_bytes)
        return [2, *public_key, *letter, *tag_by_rule(key, 2, public_key, letter)]

    def finish_for(self, numbers, message=(201,), seed=SEED):
        oracle = pair_of(numbers)[1]
        public_key = oracle.keys(seed)[0]
        key, letter = oracle.send(public_key, list(message) * oracle.message_bytes)
        return [3, *letter, *tag_by_rule(key, 3, public_key, letter)]

    def strange_lists(self, numbers):
        """Byte lists of no shape, and lists that have the length of one and another first byte."""
        params = set_of(numbers)
        counts = (hello_bytes(params), reply_bytes(params), finish_bytes(params))
        lists = [[], [0], [1], [2], [3], [4], [255], [1] * 100, [2] * 1000, [3] * 20000]
        for count, first in itertools.product(counts, range(6)):
            lists += [[first] + [0] * (count - 2), [first] + [7] * (count - 1), [first] + [0] * count]
        return lists

    def some_lists(self, numbers):
        """Byte lists of each shape and of none, good and bad ones."""
        hello, reply, finish = self.hello_for(numbers), self.reply_for(numbers), self.finish_for(numbers)
        others = [self.hello_for(numbers, OTHER_SEED), self.reply_for(numbers, (9,)), self.finish_for(numbers, (9,)),
                  self.reply_for(numbers, (201,), OTHER_SEED), self.finish_for(numbers, (201,), OTHER_SEED)]
        lists = [hello, reply, finish, *others, *self.strange_lists(numbers)]
        for data in (hello, reply, finish):
            lists += [bent(data, place) for place in (0, 1, len(data) - 33, len(data) - 32, len(data) - 1)]
        return lists + [[1] + [255] * (len(hello) - 1), [1, *pack(12, [numbers[1]] * (len(hello) // 12 * 8))][:len(hello)]]


class StarterTest(EndTest):

    def test_new(self):
        for numbers in SMALL_SETS + PUBLISHED[:1]:
            params, oracle = pair_of(numbers)
            starter = Starter(params, *SEEDS)
            self.same((starter.state, starter.key), ("new", None))
            self.same(starter.public_key, oracle.keys(SEED)[0])
            self.same(starter.start(), [1, *oracle.keys(SEED)[0]])
            self.same((starter.state, starter.key), ("waiting", None))
            self.same(len(starter.start()), hello_bytes(params))

    def test_accepted(self):
        for numbers in (*SMALL_SETS, *MIDDLE, PUBLISHED[0], SAME_LENGTH):
            params, oracle = pair_of(numbers)
            public_key, secret_key = make_keys(params, *SEEDS)
            for byte in (0, 201):
                starter, model = Starter(params, *SEEDS), StarterModel(oracle, *SEEDS)
                self.same(starter.start(), model.start())
                _, letter = send(params, public_key, [byte] * oracle.message_bytes)
                # The tag for the key that the starter receives, also where the message does not come back.
                key = receive(params, secret_key, letter)
                reply = [2, *public_key, *letter, *tag_of(key, 2, public_key, letter)]
                finish = [3, *letter, *tag_of(key, 3, public_key, letter)]
                self.same(self.check_take(starter, model, reply), ("accepted", finish))
                self.same((starter.state, starter.key), ("done", tag_of(key, 0, public_key, letter)))
                self.same(len(finish), finish_bytes(params))
                self.same(self.check_take(starter, model, reply), ("repeated", finish))

    def test_any_letter_with_its_tag(self):
        # The letter may be any one: the key that is received from it makes the tag.
        params, oracle = pair_of(SMALL)
        public_key, secret_key = oracle.make_keys(*SEEDS)
        for letter in ([0] * 11, [255] * 11, some_bytes("letter", 11)):
            starter, model = self.starter_in(SMALL, "waiting")
            key = oracle.receive_report(secret_key, letter)[2]
            reply = [2, *public_key, *letter, *tag_by_rule(key, 2, public_key, letter)]
            self.same(self.check_take(starter, model, reply)[0], "accepted")

    def test_one_byte_wrong(self):
        reply = self.reply_for(SMALL)
        for place, step in itertools.product(range(len(reply)), (1, 128)):
            starter, model = self.starter_in(SMALL, "waiting")
            verdict = "strange" if place == 0 else "refused"
            self.same(self.check_take(starter, model, bent(reply, place, step)), (verdict, None))
            self.same((starter.state, starter.key), ("waiting" if place == 0 else "closed", None))
            self.same(self.check_take(starter, model, reply)[0], "accepted" if place == 0 else "late")

    def test_public_key_modulo_q(self):
        # The public key is compared as a byte list: the same numbers modulo q are another key.
        starter, model = self.starter_in(SMALL, "waiting")
        params, oracle = pair_of(SMALL)
        public_key = oracle.keys(SEED)[0]
        number = public_key[0] + 256 * (public_key[1] % 16) + 97 * 41
        raised = [number % 256, number // 256 + public_key[1] // 16 * 16, *public_key[2:]]
        key, letter = oracle.send(public_key, [201])
        reply = [2, *raised, *letter, *tag_by_rule(key, 2, raised, letter)]
        self.same(self.check_take(starter, model, reply), ("refused", None))

    def test_tags_of_other_numbers(self):
        oracle = pair_of(SMALL)[1]
        public_key = oracle.keys(SEED)[0]
        key, letter = oracle.send(public_key, [201])
        for number in (0, 1, 3, 4):
            starter, model = self.starter_in(SMALL, "waiting")
            reply = [2, *public_key, *letter, *tag_by_rule(key, number, public_key, letter)]
            self.same(self.check_take(starter, model, reply), ("refused", None))

    def test_all_lists_in_all_states(self):
        for numbers in (SMALL, SAME_LENGTH, TWO_ROWS):
            for state, data in itertools.product(STARTER_STATES, self.some_lists(numbers)):
                starter, model = self.starter_in(numbers, state)
                self.check_take(starter, model, data)
                self.check_take(starter, model, data)

    def test_verdicts(self):
        reply, other = self.reply_for(SMALL), self.reply_for(SMALL, (9,))
        expected = {
            "new": ("early", "new"), "waiting": ("accepted", "done"), "done": ("repeated", "done"),
            "closed": ("late", "closed"),
        }
        for state in STARTER_STATES:
            starter, _ = self.starter_in(SMALL, state)
            found = starter.take(reply)
            self.same((found[0], starter.state), expected[state])
            self.assertEqual(found[1] is not None, state in ("waiting", "done"))
            starter, _ = self.starter_in(SMALL, state)
            self.same((starter.take(other)[0]), "late" if state == "done" else expected[state][0])
            for data in self.strange_lists(SMALL)[:10] + [self.hello_for(SMALL), self.finish_for(SMALL)]:
                starter, _ = self.starter_in(SMALL, state)
                self.same(starter.take(data), ("late" if state == "closed" else "strange", None))
                self.same(starter.state, state)

    def test_start_in_each_state(self):
        for state in STARTER_STATES:
            starter, _ = self.starter_in(SMALL, state)
            key = starter.key
            for _ in range(3):
                hello = starter.start()
                self.same(hello, self.hello_for(SMALL))
                spoil(hello)
                self.same((starter.state, starter.key), ("waiting" if state == "new" else state, key))

    def test_final_states(self):
        for state in ("done", "closed"):
            starter, model = self.starter_in(SMALL, state)
            key = starter.key
            for data in self.some_lists(SMALL):
                self.check_take(starter, model, data)
                self.same((starter.state, starter.key), (state, key))
            self.assertEqual(key is None, state == "closed")

    def test_random_walks(self):
        chance = random.Random(73)
        lists = self.some_lists(SMALL)
        good = [self.reply_for(SMALL), self.reply_for(SMALL, (9,))]
        for _ in range(60):
            starter, model = self.starter_in(SMALL, "new")
            for _ in range(12):
                if chance.random() < 0.2:
                    self.same(starter.start(), model.start())
                    self.check_same(starter, model)
                else:
                    self.check_take(starter, model, chance.choice(good if chance.random() < 0.3 else lists))

    def test_wrong_kinds_in_each_state(self):
        for state in STARTER_STATES:
            starter, model = self.starter_in(SMALL, state)
            for data, expected in BAD_BYTES + bad_list(0, 255, self.reply_for(SMALL))[6:]:
                before = repr(data)
                self.same(refusal(starter.take, data), expected)
                self.same(refusal(starter.take, data=data), expected)
                self.assertEqual(repr(data), before)
                self.check_same(starter, model)
            self.check_take(starter, model, self.reply_for(SMALL))

    def test_new_lists(self):
        starter, model = self.starter_in(SMALL, "done")
        for _ in range(2):
            spoil([starter.key, starter.public_key, starter.start(), starter.take(self.reply_for(SMALL))[1]])
            self.check_same(starter, model)
            self.same(starter.public_key, model.public_key)
            self.same(starter.start(), model.start())
            self.same(starter.take(data=self.reply_for(SMALL)), ("repeated", self.finish_for(SMALL)))

    def test_what_is_given(self):
        seeds = [list(SEED), list(OTHER_SEED)]
        starter = Starter(set_of(SMALL), *seeds)
        spoil(seeds)
        self.same(starter.start(), self.hello_for(SMALL))
        reply = self.reply_for(SMALL)
        starter.take(reply)
        spoil(reply)
        self.same(starter.take(self.reply_for(SMALL))[0], "repeated")

    def test_keywords_and_refusals(self):
        good = {"params": set_of(SMALL), "key_seed": SEED, "fallback_seed": OTHER_SEED}
        self.same(Starter(**good).public_key, self.hello_for(SMALL)[1:])
        self.same(Starter(set_of(SMALL), SEED, fallback_seed=OTHER_SEED).public_key, self.hello_for(SMALL)[1:])
        self.check_refusals(Starter, good, {"key_seed": BAD_SEED, "fallback_seed": BAD_SEED})

    def test_two_starters(self):
        first, second = self.starter_in(SMALL, "waiting")[0], self.starter_in(SMALL, "waiting")[0]
        first.take(self.reply_for(SMALL))
        self.same((first.state, second.state), ("done", "waiting"))
        second.take(bent(self.reply_for(SMALL), 50))
        self.same((first.state, second.state), ("done", "closed"))
        third = Starter(set_of(SMALL), *SEEDS)
        self.same((third.state, third.key), ("new", None))


class AnswererTest(EndTest):

    def test_accepted(self):
        for numbers in (*SMALL_SETS, *MIDDLE, PUBLISHED[0], SAME_LENGTH):
            params, oracle = pair_of(numbers)
            for number in range(2):
                message = message_of(number + 1, oracle.message_bytes)
                answerer, model = Answerer(params, message), AnswererModel(oracle, message)
                self.same((answerer.state, answerer.key), ("new", None))
                hello = self.hello_for(numbers, seed_of(number))
                public_key = hello[1:]
                key, letter = send(params, public_key, message)
                reply = [2, *public_key, *letter, *tag_of(key, 2, public_key, letter)]
                self.same(self.check_take(answerer, model, hello), ("accepted", reply))
                self.same((answerer.state, answerer.key), ("replied", None))
                self.same(self.check_take(answerer, model, hello), ("repeated", reply))
                self.same(len(reply), reply_bytes(params))
                finish = [3, *letter, *tag_of(key, 3, public_key, letter)]
                self.same(self.check_take(answerer, model, finish), ("accepted", None))
                self.same((answerer.state, answerer.key), ("done", tag_of(key, 0, public_key, letter)))
                self.same(self.check_take(answerer, model, finish), ("repeated", None))
                self.same(self.check_take(answerer, model, hello), ("repeated", reply))

    def test_public_keys_with_a_fault(self):
        for numbers in (SMALL, TWO_ROWS, (8, 17, 9, 2, 3, 1, 4, 5)):
            params, oracle = pair_of(numbers)
            count = oracle.n * oracle.k
            message = [201] * oracle.message_bytes
            for place in range(count):
                for value, fault in ((oracle.q - 1, False), (oracle.q, True), (4095, True)):
                    packed = pack(12, [0] * place + [value] + [0] * (count - place - 1))
                    answerer, model = Answerer(params, message), AnswererModel(oracle, message)
                    found = self.check_take(answerer, model, [1, *packed, *SEED])
                    self.same((found[0], answerer.state), ("refused", "closed") if fault else ("accepted", "replied"))
                    self.same(found[1] is None, fault)
            self.same(self.check_take(answerer, model, self.hello_for(numbers)), ("late", None))

    def test_faults_behind_the_first_hello(self):
        for state in ("replied", "done", "closed"):
            answerer, model = self.answerer_in(SMALL, state)
            self.same(self.check_take(answerer, model, [1] + [255] * 44), ("late", None))
            self.same(answerer.state, state)

    def test_finish_with_one_byte_wrong(self):
        for numbers in (SMALL, SAME_LENGTH):
            finish = self.finish_for(numbers)
            for place, step in itertools.product(range(len(finish)), (1, 128)):
                answerer, model = self.answerer_in(numbers, "replied")
                # With the lengths of a set alike, 3 ^ 2 would be the first byte of a hello.
                verdict = "strange" if place == 0 else "refused"
                self.same(self.check_take(answerer, model, bent(finish, place, step)), (verdict, None))
                self.same(answerer.state, "replied" if place == 0 else "closed")
                self.same(self.check_take(answerer, model, finish)[0], "accepted" if place == 0 else "late")

    def test_hello_with_one_byte_wrong(self):
        hello = self.hello_for(SMALL)
        for place, step in itertools.product(range(len(hello)), (1, 128)):
            for state in ("replied", "done"):
                answerer, model = self.answerer_in(SMALL, state)
                verdict = "strange" if place == 0 else "late"
                self.same(self.check_take(answerer, model, bent(hello, place, step)), (verdict, None))
                self.same(answerer.state, state)

    def test_same_lengths(self):
        params = set_of(SAME_LENGTH)
        self.same(hello_bytes(params), finish_bytes(params))
        hello, finish = self.hello_for(SAME_LENGTH), self.finish_for(SAME_LENGTH)
        for state, verdicts in (
            ("new", ("early", "accepted")), ("replied", ("refused", "late")), ("done", ("late", "late")),
            ("closed", ("late", "late")),
        ):
            for data, verdict in (([3, *hello[1:]], verdicts[0]), ([1, *finish[1:]], verdicts[1])):
                answerer, model = self.answerer_in(SAME_LENGTH, state)
                found = self.check_take(answerer, model, data)
                if data[0] == 3 or state != "new":
                    self.same(found, (verdict, None))

    def test_all_lists_in_all_states(self):
        for numbers in (SMALL, SAME_LENGTH, TWO_ROWS):
            for state, data in itertools.product(ANSWERER_STATES, self.some_lists(numbers)):
                answerer, model = self.answerer_in(numbers, state)
                self.check_take(answerer, model, data)
                self.check_take(answerer, model, data)

    def test_verdicts(self):
        lists = {
            "hello": self.hello_for(SMALL), "other hello": self.hello_for(SMALL, OTHER_SEED),
            "finish": self.finish_for(SMALL), "other finish": self.finish_for(SMALL, (9,)), "reply": self.reply_for(SMALL),
        }
        expected = {
            "new": ("accepted", "accepted", "early", "early", "strange"),
            "replied": ("repeated", "late", "accepted", "refused", "strange"),
            "done": ("repeated", "late", "repeated", "late", "strange"),
            "closed": ("late", "late", "late", "late", "late"),
        }
        after = {"hello": {"new": "replied"}, "other hello": {"new": "replied"}, "finish": {"replied": "done"},
                 "other finish": {"replied": "closed"}, "reply": {}}
        for state, verdicts in expected.items():
            for (name, data), verdict in zip(lists.items(), verdicts):
                answerer, _ = self.answerer_in(SMALL, state)
                found = answerer.take(data)
                self.same(found[0], verdict)
                self.same(answerer.state, after[name].get(state, state))
                has_answer = name.endswith("hello") and verdict in ("accepted", "repeated")
                self.assertEqual(found[1] is not None, has_answer, (state, name))
            for data in self.strange_lists(SMALL)[:10]:
                answerer, _ = self.answerer_in(SMALL, state)
                self.same(answerer.take(data), ("late" if state == "closed" else "strange", None))
                self.same(answerer.state, state)

    def test_tags_of_other_numbers(self):
        oracle = pair_of(SMALL)[1]
        public_key = oracle.keys(SEED)[0]
        key, letter = oracle.send(public_key, [201])
        for number in (0, 1, 2, 4):
            answerer, model = self.answerer_in(SMALL, "replied")
            finish = [3, *letter, *tag_by_rule(key, number, public_key, letter)]
            self.same(self.check_take(answerer, model, finish), ("refused", None))

    def test_final_states(self):
        for state in ("done", "closed"):
            answerer, model = self.answerer_in(SMALL, state)
            key = answerer.key
            for data in self.some_lists(SMALL):
                self.check_take(answerer, model, data)
                self.same((answerer.state, answerer.key), (state, key))
            self.assertEqual(key is None, state == "closed")

    def test_random_walks(self):
        chance = random.Random(74)
        lists = self.some_lists(SAME_LENGTH)
        good = [self.hello_for(SAME_LENGTH), self.finish_for(SAME_LENGTH), self.hello_for(SAME_LENGTH, OTHER_SEED)]
        for _ in range(60):
            answerer, model = self.answerer_in(SAME_LENGTH, "new")
            for _ in range(12):
                self.check_take(answerer, model, chance.choice(good if chance.random() < 0.5 else lists))

    def test_wrong_kinds_in_each_state(self):
        for state in ANSWERER_STATES:
            answerer, model = self.answerer_in(SMALL, state)
            for data, expected in BAD_BYTES + bad_list(0, 255, self.hello_for(SMALL))[6:]:
                before = repr(data)
                self.same(refusal(answerer.take, data), expected)
                self.same(refusal(answerer.take, data=data), expected)
                self.assertEqual(repr(data), before)
                self.check_same(answerer, model)
            self.check_take(answerer, model, self.hello_for(SMALL))

    def test_new_lists(self):
        answerer, model = self.answerer_in(SMALL, "done")
        for _ in range(2):
            spoil([answerer.key, answerer.take(self.hello_for(SMALL))[1]])
            self.check_same(answerer, model)
            self.same(answerer.take(data=self.hello_for(SMALL)), ("repeated", self.reply_for(SMALL)))

    def test_what_is_given(self):
        message, hello = [201], self.hello_for(SMALL)
        answerer = Answerer(set_of(SMALL), message)
        message[0] = 9
        self.same(answerer.take(hello), ("accepted", self.reply_for(SMALL)))
        spoil(hello)
        self.same(answerer.take(self.hello_for(SMALL)), ("repeated", self.reply_for(SMALL)))

    def test_keywords_and_refusals(self):
        for numbers in (SMALL, (16, 97, 8, 4, 2, 3, 3, 5)):
            params, oracle = pair_of(numbers)
            good = {"params": params, "message": message_of(2, oracle.message_bytes)}
            self.same(Answerer(**good).state, "new")
            self.check_refusals(Answerer, good, {"message": bad_message(oracle)})

    def test_two_answerers(self):
        first, second = self.answerer_in(SMALL, "replied")[0], self.answerer_in(SMALL, "replied")[0]
        first.take(self.finish_for(SMALL))
        self.same((first.state, second.state), ("done", "replied"))
        second.take(self.finish_for(SMALL, (9,)))
        self.same((first.state, second.state), ("done", "closed"))


class BothEndsTest(EndTest):

    def test_always_sets(self):
        for numbers in (*ALWAYS, *PUBLISHED):
            params, oracle = pair_of(numbers)
            starter, answerer = Starter(params, *SEEDS), Answerer(params, message_of(3, oracle.message_bytes))
            _, reply = answerer.take(starter.start())
            verdict, finish = starter.take(reply)
            self.same((verdict, answerer.take(finish)), ("accepted", ("accepted", None)))
            self.same((starter.state, answerer.state), ("done", "done"))
            self.same(starter.key, answerer.key)
            self.same(len(starter.key), 32)

    def test_noisy_sets(self):
        # Where the message is lost, the starter refuses the reply.
        closed = 0
        for numbers in NOISY:
            params, oracle = pair_of(numbers)
            public_key, secret_key = oracle.make_keys(*SEEDS)
            for number in range(4):
                message = message_of(number, oracle.message_bytes)
                starter, answerer = Starter(params, *SEEDS), Answerer(params, message)
                _, reply = answerer.take(starter.start())
                verdict, _ = starter.take(reply)
                key, letter = oracle.send(public_key, message)
                sound = oracle.receive_report(secret_key, letter)[2] == key
                self.same((verdict, starter.state), ("accepted", "done") if sound else ("refused", "closed"))
                closed += not sound
        self.assertGreater(closed, 0)


if __name__ == "__main__":
    unittest.main()
