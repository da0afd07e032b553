"""What the document promises over the whole program."""

import itertools
import unittest

from noisebound.algebra import Element
from noisebound.book import Book, audit, first_difference, replay
from noisebound.bounds import always_comes_back, key_always
from noisebound.cipher import cipher_keys, masked
from noisebound.ends import Answerer, Starter
from noisebound.exchange import key_and_randomness, make_keys, receive, receive_report, send
from noisebound.keytext import key_to_text, text_to_key
from noisebound.noise import comes_back, is_key_paper, is_noise_paper, key_paper, noise_paper, noise_row
from noisebound.parameters import published, published_names, set_line, set_of
from noisebound.records import Channel, Mailbox, chain_key
from noisebound.script import line_of, parse_line
from noisebound.talks import Talk
from tests.sets import ALWAYS, NOISY, PUBLISHED, SMALL, SMALL_SETS, message_of, pair_of, seed_of, some_bytes
from tests.test_cipher import OTHER_SEED, SEED
from tests.test_ends import SAME_LENGTH
from tests.tools import ProgramTest, refusal

SEEDS = (SEED, OTHER_SEED)
FOUR = [("start",), ("give", 0), ("give", 1), ("give", 2)]


class TalkAndRecordsTest(ProgramTest):

    def test_records_behind_a_talk(self):
        for numbers in (*ALWAYS, *PUBLISHED, SAME_LENGTH):
            params, oracle = pair_of(numbers)
            talk = Talk(params, *SEEDS, message_of(2, oracle.message_bytes))
            for deed in FOUR:
                talk.do(deed)
            channels = [Channel(talk.starter_key, 0), Channel(talk.answerer_key, 1)]
            for number in range(3):
                for sender, taker in itertools.permutations(channels, 2):
                    body = some_bytes((number, sender.side), 50 * number)
                    self.same(taker.take(sender.seal_next(body)), (number, body))
            for channel in channels:
                self.same((channel.sent, channel.taken), (3, [0, 1, 2]))

    def test_records_behind_repeated_and_lost_lists(self):
        params = set_of(SMALL)
        talk = Talk(params, *SEEDS, [77])
        for deed in (("start",), ("start",), ("give", 1), ("give", 0), ("give", 2), ("give", 3), ("give", 4), ("give", 5)):
            talk.do(deed)
        sender, taker = Channel(talk.starter_key, 0), Channel(talk.answerer_key, 1)
        self.same(taker.take(sender.seal_next([1, 2, 3])), (0, [1, 2, 3]))

    def test_records_under_chained_keys(self):
        params = set_of(SMALL)
        starter, answerer = Starter(params, *SEEDS), Answerer(params, [3])
        answerer.take(starter.take(answerer.take(starter.start())[1])[1])
        for steps in (0, 1, 64):
            one, other = Channel(chain_key(starter.key, steps), 0), Channel(chain_key(answerer.key, steps), 1)
            self.same(other.take(one.seal_next([steps])), (0, [steps]))
            later = Channel(chain_key(answerer.key, steps - 1 if steps else 1), 1)
            self.same(refusal(later.take, one.seal_next([steps])), ("BadRecord", "tag"))


class LettersAndNoiseTest(ProgramTest):

    def test_a_book_of_letters(self):
        for numbers in SMALL_SETS:
            book = Book()
            book.run_all("set s " + set_line(set_of(numbers)), "keys k s 5 6", "bounds b s")
            for number, message in enumerate((0, 90, 201, 255)):
                book.run_all(f"letter l{number} k {message}", f"noise n{number} l{number}", f"receive r{number} k l{number}")
                lost, found, word = book[f"n{number}"][3], *book[f"r{number}"][3:]
                if lost == []:
                    self.same((found, word), (book[f"l{number}"][3], "found"))
                else:
                    self.assertFalse(book["b"][5])
                    self.assertNotEqual(found, book[f"l{number}"][3])
            self.same(audit(book.all_rows()), None)
            self.same(first_difference(book, replay(book.all_lines())), None)

    def test_noise_tells_what_is_received(self):
        lost = 0
        for numbers in SMALL_SETS:
            params, oracle = pair_of(numbers)
            for number in range(6):
                public_key, secret_key = make_keys(params, seed_of(number), OTHER_SEED)
                message = message_of(number, oracle.message_bytes)
                key, letter = send(params, public_key, message)
                randomness = key_and_randomness(params, public_key, message)[1]
                noise = noise_row(params, seed_of(number), message, randomness)
                found = receive_report(params, secret_key, letter)[0]
                self.assertIs(comes_back(params, message, noise), found == message)
                if found == message:
                    self.same(receive(params, secret_key, letter), key)
                lost += found != message
                self.assertFalse(found != message and (always_comes_back(params) or self.is_always_key(params, number)))
        self.assertGreater(lost, 0)

    def is_always_key(self, params, number):
        return key_always(params, *key_paper(params, seed_of(number)))

    def test_papers_of_an_exchange(self):
        for numbers in SMALL_SETS + PUBLISHED[:1]:
            params, oracle = pair_of(numbers)
            public_key = make_keys(params, *SEEDS)[0]
            message = message_of(3, oracle.message_bytes)
            letter = send(params, public_key, message)[1]
            paper = noise_paper(params, SEED, message, key_and_randomness(params, public_key, message)[1])
            self.assertIs(is_noise_paper(params, public_key, letter, message, paper), True)
            self.assertIs(is_key_paper(params, public_key, paper[:2]), True)

    def test_masked_polynomial_with_elements(self):
        # The signs of elements give the same masked polynomial as the spectra of the cipher.
        params, oracle = pair_of((8, 281, 60, 2, 1, 3, 10, 6))
        public_key, cipher_secret = cipher_keys(params, SEED)
        letter = send(params, public_key, [201])[1]
        u, v = oracle.read(letter)
        rows = key_paper(params, SEED)[0]
        secret = [Element(params.ring, [item % params.q for item in row]) for row in rows]
        found = Element(params.ring, v)
        for one, other in zip(secret, u):
            found = found - one * Element(params.ring, other)
        self.same(found.coefficients(), masked(params, cipher_secret, letter))


class PublishedSetsTest(ProgramTest):

    def test_they_exchange_a_key(self):
        for name in published_names():
            params = published(name)
            public_key, secret_key = make_keys(params, *SEEDS)
            read = [text_to_key(key_to_text(params, kind, data))[2]
                    for kind, data in (("public", public_key), ("secret", secret_key))]
            key, letter = send(params, read[0], message_of(2, 32))
            letter = text_to_key(key_to_text(params, "letter", letter))[2]
            self.same(receive(params, read[1], letter), key)
            mailbox = Mailbox(params, *SEEDS)
            self.same((mailbox.public_key, mailbox.take(letter)), (public_key, (0, key)))

    def test_they_talk(self):
        for name in published_names():
            params = published(name)
            starter, answerer = Starter(params, *SEEDS), Answerer(params, message_of(2, 32))
            finish = starter.take(answerer.take(starter.start())[1])[1]
            self.same(answerer.take(finish), ("accepted", None))
            self.same(starter.key, answerer.key)

    def test_lengths(self):
        for name, lengths in zip(published_names(), ((800, 1632, 768), (1184, 2400, 1088), (1568, 3168, 1568))):
            params = published(name)
            public_key, secret_key = make_keys(params, *SEEDS)
            letter = send(params, public_key, [0] * 32)[1]
            self.same((len(public_key), len(secret_key), len(letter)), lengths)


class ScriptsTest(ProgramTest):

    def test_lines_are_read_and_written(self):
        lines = ["set a 8 97 33 1 1 1 7 4", "keys k a 1 2", "letter l k 3", "turn t l 1 2", "receive r k t", "noise n l"]
        for numbers in NOISY:
            lines.append(f"set s{len(lines)} " + set_line(set_of(numbers)))
        book = replay([line_of(parse_line(line)) for line in lines])
        self.same(book.all_lines(), lines)

    def test_a_book_and_a_talk(self):
        # The letter in the reply of a talk is the one of the book, and its record key follows from the sent key.
        book = replay(["set a 8 97 33 1 1 1 7 4", "keys k a 1 2", "letter l k 201"])
        talk = Talk(set_of(SMALL), [1] + [0] * 31, [2] + [0] * 31, [201])
        for deed in FOUR:
            talk.do(deed)
        self.same(talk.sent[0][1:], book["k"][2])
        self.same(talk.sent[1][45:56], book["l"][2])


if __name__ == "__main__":
    unittest.main()
