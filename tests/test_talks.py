import itertools
import random
import unittest

from noisebound.ends import Answerer, Starter, hello_bytes, reply_bytes
from noisebound.exchange import make_keys, receive, send
from noisebound.talks import Talk, first_wrong_row, is_talk_journal, run_talk
from noisebound.parameters import read_set_line, set_of
from tests.oracle import TalkModel
from tests.sets import ALWAYS, NOISY, PUBLISHED, SMALL, message_of, pair_of, seed_of
from tests.test_cipher import BAD_SEED, OTHER_SEED, SEED, TWO_ROWS
from tests.test_ends import SAME_LENGTH
from tests.test_noise import bad_message
from tests.tools import ANY_PAPERS, HUGE, ProgramTest, bent_papers, spoil

SEEDS = (SEED, OTHER_SEED)
START = ("start",)
FOUR = [START, ("give", 0), ("give", 1), ("give", 2)]
TWICE = [START, START, ("give", 0), ("give", 1), ("give", 2), ("give", 2), ("give", 3), ("give", 3), ("give", 4), ("give", 4)]


def case_of(numbers, message=(201,)):
    params, oracle = pair_of(numbers)
    return (params, *SEEDS, list(message) * oracle.message_bytes)


def model_of(numbers, message=(201,)):
    oracle = pair_of(numbers)[1]
    return TalkModel(oracle, *SEEDS, list(message) * oracle.message_bytes)


def random_deeds(chance, count, turns):
    """Deeds without a pattern, with so many turns among them at most."""
    deeds = []
    for _ in range(count):
        if chance.random() < 0.15:
            deeds.append(START)
        else:
            deeds.append(("give", min(chance.randrange(8), chance.randrange(8))))
    for _ in range(turns):
        place = chance.choice((0, 1, 20, 43, 44, 45, 50, 55, 56, 60, 87, 88, 1000))
        turn = ("turn", chance.randrange(6), place, chance.randrange(256))
        deeds[chance.randrange(count)] = turn
    return [START, *deeds]


class TalkTest(ProgramTest):

    def check_talk(self, numbers, deeds, message=(201,)):
        """A talk beside its model, deed by deed."""
        talk, model = Talk(*case_of(numbers, message)), model_of(numbers, message)
        self.check_views(talk, model)
        for deed in deeds:
            before = repr(deed)
            self.same(talk.do(deed), model.do(deed))
            self.assertEqual(repr(deed), before)
            self.check_views(talk, model)
        journal = model.journal()
        self.same(run_talk(*case_of(numbers, message), deeds), journal)
        self.assertIs(is_talk_journal(*case_of(numbers, message), deeds, journal), True)
        self.same(first_wrong_row(*case_of(numbers, message), deeds, journal[0]), None)
        return journal

    def check_views(self, talk, model):
        for _ in range(2):
            self.same(talk.rows, model.rows)
            self.same(talk.sent, [data for _, data in model.sent])
            self.same((talk.starter_key, talk.answerer_key), (model.ends["starter"].key, model.ends["answerer"].key))
            self.same(talk.journal, model.journal())
            spoil([talk.rows, talk.sent, talk.starter_key or [0], talk.answerer_key or [0]])
            spoil([part for part in talk.journal if part])


class DeedsTest(TalkTest):

    def test_example(self):
        params = read_set_line("8 97 33 1 1 1 7 4")
        found = run_talk(params, [0] * 32, [1] * 32, [5], [("give", 0), ("start",), ("turn", 0, 45, 1)])
        rows = [("nothing", None, "new", "new"), ("started", 0, "waiting", "new"), ("nothing", None, "waiting", "new")]
        self.same(found, (rows, None, None))

    def test_a_new_talk(self):
        talk = Talk(*case_of(SMALL))
        self.same((talk.rows, talk.sent, talk.starter_key, talk.answerer_key), ([], [], None, None))
        self.same(talk.journal, ([], None, None))
        self.same(run_talk(*case_of(SMALL), []), ([], None, None))

    def test_four_deeds(self):
        for numbers in (*ALWAYS, SAME_LENGTH, PUBLISHED[0]):
            rows, starter_key, answerer_key = self.check_talk(numbers, FOUR)
            self.same(rows, [
                ("started", 0, "waiting", "new"), ("accepted", 1, "waiting", "replied"),
                ("accepted", 2, "done", "replied"), ("accepted", None, "done", "done"),
            ])
            self.same(starter_key, answerer_key)
            self.same(len(starter_key), 32)

    def test_against_two_ends_led_by_hand(self):
        for numbers in (SMALL, TWO_ROWS):
            params, *others = case_of(numbers)
            starter, answerer = Starter(params, *others[:2]), Answerer(params, others[2])
            talk = Talk(params, *others)
            hello = starter.start()
            self.same(talk.do(START), ("started", 0, starter.state, answerer.state))
            verdict, reply = answerer.take(hello)
            self.same(talk.do(("give", 0)), (verdict, 1, starter.state, answerer.state))
            turned = [*reply[:1], reply[1] ^ 1, *reply[2:]]
            self.same(talk.do(("turn", 1, 0, 9)), (starter.take([9, *reply[1:]])[0], None, "waiting", "replied"))
            verdict, finish = starter.take(reply)
            self.same(talk.do(("give", 1)), (verdict, 2, starter.state, answerer.state))
            self.same(talk.do(("turn", 1, 1, turned[1])), (starter.take(turned)[0], None, "done", "replied"))
            verdict, _ = answerer.take(finish)
            self.same(talk.do(("give", 2)), (verdict, None, starter.state, answerer.state))
            self.same(talk.sent, [hello, reply, finish])
            self.same((talk.starter_key, talk.answerer_key), (starter.key, answerer.key))
            self.same(talk.journal, (talk.rows, starter.key, answerer.key))

    def test_every_list_twice(self):
        for numbers in (SMALL, SAME_LENGTH):
            rows, starter_key, answerer_key = self.check_talk(numbers, TWICE)
            verdicts = [(row[0], row[1]) for row in rows]
            self.same(verdicts, [
                ("started", 0), ("started", 1), ("accepted", 2), ("repeated", 3), ("accepted", 4), ("repeated", 5),
                ("repeated", 6), ("repeated", 7), ("accepted", None), ("repeated", None),
            ])
            self.same(starter_key, answerer_key)
            self.assertIsNotNone(starter_key)

    def test_other_orders(self):
        for deeds in itertools.permutations([*FOUR, ("give", 1)]):
            self.check_talk(SMALL, list(deeds))

    def test_lost_lists(self):
        for count in range(5):
            for deeds in itertools.combinations(FOUR, count):
                self.check_talk(SMALL, list(deeds))

    def test_a_reply_before_the_start(self):
        # The hello has to be sent first, so the starter is never new when it takes a reply in a talk.
        self.check_talk(SMALL, [("give", 0), ("give", 1), START, ("give", 1), ("give", 0), ("give", 0), ("give", 2)])

    def test_nothing(self):
        for deed in (("give", 0), ("give", 99999), ("turn", 0, 0, 0), ("turn", 99999, 99999, 255)):
            self.same(run_talk(*case_of(SMALL), [deed]), ([("nothing", None, "new", "new")], None, None))
        count = hello_bytes(set_of(SMALL))
        for deed, nothing in (
            (("give", 1), True), (("give", 99999), True), (("turn", 0, count, 1), True), (("turn", 0, 99999, 1), True),
            (("turn", 1, 0, 1), True), (("turn", 0, count - 1, 1), False), (("give", 0), False),
        ):
            rows, _, _ = self.check_talk(SMALL, [START, deed])
            self.assertEqual(rows[1] == ("nothing", None, "waiting", "new"), nothing, deed)
        self.check_talk(SMALL, [*FOUR, ("give", 3), ("turn", 2, 44, 1), ("turn", 2, 43, 1), ("give", 2)])
        # A deed that finds nothing changes nothing: the talk goes on as if it had not been.
        deeds = [deed for part in FOUR for deed in (("turn", 3, 0, 0), part, ("give", 50), ("turn", 0, 45, 7))]
        rows, starter_key, answerer_key = self.check_talk(SMALL, deeds)
        self.same([row for row in rows if row[0] != "nothing"], run_talk(*case_of(SMALL), FOUR)[0])
        self.same(starter_key, answerer_key)

    def test_what_was_sent_does_not_change(self):
        rows, starter_key, answerer_key = self.check_talk(
            SMALL, [START, ("turn", 0, 0, 0), ("turn", 0, 44, 0), ("give", 0), ("give", 1)],
        )
        self.same([row[0] for row in rows[:3]], ["started", "strange", "accepted"])
        # The turned hello was accepted, so the one that was sent is late.
        self.same(rows[3][0], "late")

    def test_who_takes(self):
        # Each byte list goes to the end that did not send it, also one that repeats an earlier one.
        talk = Talk(*case_of(SMALL))
        for deed in TWICE:
            talk.do(deed)
        self.same([data[0] for data in talk.sent], [1, 1, 2, 2, 3, 3, 3, 3])
        # Given once more, each one is repeated by the end that accepted it; at the other end it would be strange.
        verdicts = [talk.do(("give", number))[0] for number in range(8)]
        self.same(verdicts, ["repeated"] * 8)

    def test_noisy_sets(self):
        closed = 0
        for numbers in NOISY:
            for byte in (0, 90, 201, 255):
                rows, starter_key, answerer_key = self.check_talk(numbers, FOUR, (byte,))
                closed += rows[2] == ("refused", None, "closed", "replied")
                if rows[2][0] == "accepted":
                    self.same(starter_key, answerer_key)
        self.assertGreater(closed, 0)

    def test_random_deeds(self):
        chance = random.Random(76)
        for numbers in (SMALL, SAME_LENGTH, (8, 17, 9, 2, 3, 1, 4, 5)):
            for turns in range(4):
                for _ in range(12):
                    self.check_talk(numbers, random_deeds(chance, 12, turns), (chance.randrange(256),))

    def test_many_deeds(self):
        deeds = [*FOUR, *[START, ("give", 0), ("give", 1), ("give", 2)] * 200]
        rows, starter_key, answerer_key = run_talk(*case_of(SMALL), deeds)
        self.same(len(rows), 804)
        self.same(rows[-1], ("repeated", None, "done", "done"))
        # In each round the hello, the reply and the finish are sent again; the last deed sends nothing.
        self.same([row[1] for row in rows if row[1] is not None], list(range(603)))
        self.same(starter_key, answerer_key)

    def test_calls(self):
        good = dict(zip(("params", "key_seed", "fallback_seed", "message"), case_of(SMALL)))
        model = model_of(SMALL)
        for deed in FOUR:
            model.do(deed)
        self.check_calls(run_talk, {**good, "deeds": FOUR}, model.journal())
        talk = Talk(**good)
        self.same(talk.do(deed=START), ("started", 0, "waiting", "new"))
        talk = Talk(set_of(SMALL), SEED, message=[201], fallback_seed=OTHER_SEED)
        self.same([talk.do(deed) for deed in FOUR], model.rows)

    def test_refusals(self):
        for numbers in (SMALL, (16, 97, 8, 4, 2, 3, 3, 5)):
            good = dict(zip(("params", "key_seed", "fallback_seed", "message"), case_of(numbers)))
            bad = {"key_seed": BAD_SEED, "fallback_seed": BAD_SEED, "message": bad_message(pair_of(numbers)[1])}
            self.check_refusals(Talk, good, bad)
            self.check_refusals(run_talk, {**good, "deeds": FOUR}, bad)
            self.check_refusals(is_talk_journal, {**good, "deeds": FOUR, "paper": None}, bad)
            self.check_refusals(first_wrong_row, {**good, "deeds": FOUR, "rows": [None]}, bad)

    def test_what_is_given(self):
        given = [list(SEED), list(OTHER_SEED), [201]]
        talk = Talk(set_of(SMALL), *given)
        spoil(given)
        self.same([talk.do(deed) for deed in FOUR], run_talk(*case_of(SMALL), FOUR)[0])

    def test_two_talks(self):
        first, second = Talk(*case_of(SMALL)), Talk(*case_of(SMALL))
        for deed in FOUR:
            first.do(deed)
        self.same(second.journal, ([], None, None))
        second.do(START)
        self.same((len(first.rows), len(second.rows), len(second.sent)), (4, 1, 1))


class FactsTest(TalkTest):

    def sound(self, numbers, message):
        oracle = pair_of(numbers)[1]
        public_key, secret_key = make_keys(set_of(numbers), *SEEDS)
        key, letter = send(set_of(numbers), public_key, [message] * oracle.message_bytes)
        return receive(set_of(numbers), secret_key, letter) == key

    def test_no_turn(self):
        chance = random.Random(77)
        done = 0
        for numbers in (SMALL, TWO_ROWS, (8, 41, 3, 3, 1, 3, 6, 5)):
            for _ in range(40):
                message = chance.randrange(256)
                if not self.sound(numbers, message):
                    continue
                rows, starter_key, answerer_key = run_talk(*case_of(numbers, (message,)), random_deeds(chance, 15, 0))
                for _, _, starter, answerer in rows:
                    self.assertNotIn("closed", (starter, answerer))
                    self.assertTrue(starter == "done" or answerer != "done")
                if rows[-1][2:] == ("done", "done"):
                    done += 1
                    self.same(starter_key, answerer_key)
                    self.assertIsNotNone(starter_key)
        self.assertGreater(done, 10)

    def test_one_turn_at_each_place(self):
        params = set_of(SMALL)
        for number, count in ((0, 45), (1, reply_bytes(params)), (2, 44)):
            for place in range(count):
                deeds = [*FOUR[:number + 1], ("turn", number, place, 200 - place), *FOUR[number + 1:], *FOUR]
                rows, starter_key, answerer_key = run_talk(*case_of(SMALL), deeds)
                if rows[-1][2:] == ("done", "done"):
                    self.same(starter_key, answerer_key)

    def test_one_turn_in_random_talks(self):
        chance = random.Random(78)
        done = 0
        for numbers in (SMALL, TWO_ROWS):
            for _ in range(80):
                rows, starter_key, answerer_key = run_talk(*case_of(numbers), random_deeds(chance, 14, 1))
                if rows[-1][2:] == ("done", "done"):
                    done += 1
                    self.same(starter_key, answerer_key)
        self.assertGreater(done, 10)

    def test_a_turn_that_changes_nothing(self):
        for numbers in (SMALL, SAME_LENGTH):
            talk = Talk(*case_of(numbers))
            for deed in FOUR:
                talk.do(deed)
            sent = talk.sent
            for number, place in itertools.product(range(3), (0, 1, 40)):
                deeds = [*FOUR[:number + 1], ("turn", number, place, sent[number][place]), *FOUR[number + 2:]]
                self.same(self.check_talk(numbers, deeds), run_talk(*case_of(numbers), FOUR))


class JudgeTest(TalkTest):

    def check_paper(self, numbers, deeds, paper, expected):
        before = repr(paper)
        self.assertIs(is_talk_journal(*case_of(numbers), deeds, paper), expected)
        self.assertEqual(repr(paper), before)

    def test_right_journals(self):
        for numbers, deeds in itertools.product((SMALL, TWO_ROWS), ([], [START], FOUR[:3], FOUR, TWICE)):
            self.check_paper(numbers, deeds, run_talk(*case_of(numbers), deeds), True)

    def test_journals_of_other_talks(self):
        talks = [[], [START], FOUR[:2], FOUR[:3], FOUR, TWICE, [START, START], [*FOUR, START]]
        for deeds, other in itertools.permutations(talks, 2):
            self.check_paper(SMALL, deeds, run_talk(*case_of(SMALL), other), False)
        self.check_paper(SMALL, FOUR, run_talk(*case_of(SMALL, (9,)), FOUR), False)
        self.check_paper(SMALL, FOUR, run_talk(*case_of(TWO_ROWS), FOUR), False)

    def test_bent_journals(self):
        for deeds in ([], [START], FOUR):
            for paper in bent_papers(run_talk(*case_of(SMALL), deeds)):
                self.check_paper(SMALL, deeds, paper, False)

    def test_other_kinds(self):
        rows, starter_key, answerer_key = run_talk(*case_of(SMALL), FOUR)
        self.check_paper(SMALL, FOUR, (rows, starter_key, answerer_key), True)
        for paper in (
            [rows, starter_key, answerer_key], (tuple(rows), starter_key, answerer_key),
            (rows, tuple(starter_key), answerer_key), (rows, starter_key, tuple(answerer_key)),
            ([list(row) for row in rows], starter_key, answerer_key), (rows, starter_key), (rows, None, None),
            (rows, starter_key, answerer_key, None), (rows, starter_key, None), ([], starter_key, answerer_key),
            ([*rows[:1], ("accepted", True, "waiting", "replied"), *rows[2:]], starter_key, answerer_key),
            ([("started", False, "waiting", "new"), *rows[1:]], starter_key, answerer_key),
        ):
            self.check_paper(SMALL, FOUR, paper, False)
        self.check_paper(SMALL, [START], ([("started", False, "waiting", "new")], None, None), False)
        self.check_paper(SMALL, [START], ([("started", 0, "waiting", "new")], None, None), True)
        self.check_paper(SMALL, [START], ([("started", 0, "waiting", "new")], False, None), False)
        # A key may hold 0 and 1, for which False and True do not stand.
        seen = 0
        for number in range(40):
            case = (set_of(SMALL), seed_of(number + 2), SEED, [7])
            found = run_talk(*case, FOUR)
            for value in (0, 1):
                if value in found[1]:
                    seen += 1
                    place = found[1].index(value)
                    key = [*found[1][:place], bool(value), *found[1][place + 1:]]
                    self.assertIs(is_talk_journal(*case, FOUR, (found[0], key, found[2])), False)
        self.assertGreater(seen, 1)

    def test_any_papers(self):
        for deeds in ([], [START], FOUR):
            for paper in ANY_PAPERS:
                self.check_paper(SMALL, deeds, paper, False)
                self.check_paper(SMALL, deeds, (paper, None, None), deeds == [] and paper.__class__ is list and paper == [])

    def test_calls(self):
        good = dict(zip(("params", "key_seed", "fallback_seed", "message"), case_of(SMALL)))
        paper = run_talk(*case_of(SMALL), FOUR)
        self.check_calls(is_talk_journal, {**good, "deeds": FOUR, "paper": paper}, True)
        self.check_calls(is_talk_journal, {**good, "deeds": FOUR, "paper": list(paper)}, False)
        self.check_calls(first_wrong_row, {**good, "deeds": FOUR, "rows": paper[0]}, None)
        self.check_calls(first_wrong_row, {**good, "deeds": FOUR, "rows": paper[0][:2]}, 2)


class FirstWrongRowTest(TalkTest):

    def check_rows(self, deeds, rows, expected):
        before = repr(rows)
        self.same(first_wrong_row(*case_of(SMALL), deeds, rows), expected)
        self.assertEqual(repr(rows), before)

    def test_too_few_and_too_many(self):
        for deeds in ([], [START], FOUR, TWICE):
            rows = run_talk(*case_of(SMALL), deeds)[0]
            self.check_rows(deeds, rows, None)
            for count in range(len(rows)):
                self.check_rows(deeds, rows[:count], count)
            for more in ([None], [rows[-1:]], [("nothing", None, "done", "done")], [[]] * 5):
                self.check_rows(deeds, rows + more, len(rows))

    def test_bent_rows(self):
        rows = run_talk(*case_of(SMALL), FOUR)[0]
        for place in range(4):
            for row in bent_papers(rows[place]):
                self.check_rows(FOUR, [*rows[:place], row, *rows[place + 1:]], place)
                self.check_rows(FOUR, [*rows[:place], row], place)
                self.check_rows(FOUR, [*rows[:place], row, None, *rows], place)
        for first, second in itertools.combinations(range(4), 2):
            bent = list(rows)
            bent[first], bent[second] = list(rows[first]), None
            self.check_rows(FOUR, bent, first)

    def test_kinds(self):
        self.check_rows([START], [("started", False, "waiting", "new")], 0)
        self.check_rows([START], [["started", 0, "waiting", "new"]], 0)
        self.check_rows([START], [("started", 0, "waiting", "new")], None)
        rows = run_talk(*case_of(SMALL), FOUR)[0]
        self.check_rows(FOUR, [rows[0], ("accepted", True, "waiting", "replied"), *rows[2:]], 1)

    def test_any_rows(self):
        for paper in ANY_PAPERS:
            self.check_rows([], [paper], 0)
            self.check_rows(FOUR, [paper, paper], 0)
            self.check_rows([START], [("started", 0, "waiting", "new"), paper], 1)
            self.check_rows([START], [("started", paper, "waiting", "new")],
                            None if paper.__class__ is int and paper == 0 else 0)
        self.check_rows([], [HUGE] * 4000, 0)


if __name__ == "__main__":
    unittest.main()
