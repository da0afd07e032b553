import copy
import itertools
import unittest

from noisebound.errors import NoiseboundError
from noisebound.parameters import (
    ParameterSet, name_of, parameter_fault, published, published_names, read_set_line, set_line, set_of,
)
from noisebound.rings import Ring
from tests.tools import HUGE, OTHER_KINDS, RINGS, ProgramTest, refusal, shown

DEMANDS = ("n", "q", "root", "k", "secret_width", "noise_width", "u_width", "v_width")
SMALL = (8, 97, 33, 1, 1, 1, 7, 4)
PUBLISHED = {
    "ML-KEM-512": (256, 3329, 17, 2, 3, 2, 10, 4),
    "ML-KEM-768": (256, 3329, 17, 3, 2, 2, 10, 4),
    "ML-KEM-1024": (256, 3329, 17, 4, 2, 2, 11, 5),
}
WIDTHS_AT_THE_ENDS = tuple(itertools.product((1, 4), (1, 3), (1, 3), (1, 11), (1, 11)))

# Integers that break each demand when the ones before it are those of SMALL.
WRONG = {
    "n": (0, 1, 2, 4, 7, 9, 12, 24, 100, 255, 257, 512, -8, HUGE, -HUGE),
    "q": (0, 1, 2, 4, 9, 15, 96, 98, 99, 4095, 4096, 4099, -97, 97 * 97, HUGE, -HUGE),
    "root": (0, 1, 2, 32, 34, 95, 96, 97, 98, 130, -64, 33 + 97, HUGE, -HUGE),
    "k": (0, 5, -1, 100, HUGE, -HUGE),
    "secret_width": (0, 4, -1, 100, HUGE, -HUGE),
    "noise_width": (0, 4, -1, 100, HUGE, -HUGE),
    "u_width": (0, 12, -1, 100, HUGE, -HUGE),
    "v_width": (0, 12, -1, 100, HUGE, -HUGE),
}


def named(numbers):
    return dict(zip(DEMANDS, numbers))


def wrong_values(demand):
    return [*OTHER_KINDS, *WRONG[demand], [8], (97,), "33", 8.0, 97.0, 33.0, 1.0]


def all_sets():
    """Sets with every ring of the tests and every width at one of its ends."""
    for triple in RINGS:
        for others in WIDTHS_AT_THE_ENDS:
            yield (*triple, *others)
    yield SMALL
    yield from PUBLISHED.values()


class FaultTest(ProgramTest):

    def check_fault(self, numbers, demand):
        before = shown(numbers)
        self.same(parameter_fault(**named(numbers)), demand)
        if demand is None:
            self.same(ParameterSet(**named(numbers)).numbers, tuple(numbers))
        else:
            self.same(refusal(ParameterSet, **named(numbers)), ("BadParameters", demand))
            self.same(refusal(set_of, list(numbers)), ("BadParameters", demand))
            self.same(refusal(set_of, tuple(numbers)), ("BadParameters", demand))
        self.same(shown(numbers), before)

    def test_no_fault(self):
        for numbers in all_sets():
            self.check_fault(numbers, None)

    def test_one_broken_demand(self):
        for place, demand in enumerate(DEMANDS):
            for value in wrong_values(demand):
                self.check_fault([*SMALL[:place], value, *SMALL[place + 1:]], demand)

    def test_several_broken_demands(self):
        for first, second in itertools.combinations(range(8), 2):
            for value in wrong_values(DEMANDS[first]):
                for other in (wrong_values(DEMANDS[second])[0], None, HUGE, 0):
                    numbers = list(SMALL)
                    numbers[first], numbers[second] = value, other
                    self.check_fault(numbers, DEMANDS[first])
        for first in range(8):
            for wrong in (0, None, True, "", [], HUGE, -HUGE):
                self.check_fault([*SMALL[:first], *[wrong] * (8 - first)], DEMANDS[first])

    def test_all_widths(self):
        for place, greatest in ((3, 4), (4, 3), (5, 3), (6, 11), (7, 11)):
            for value in range(-1, 14):
                numbers = [*SMALL[:place], value, *SMALL[place + 1:]]
                self.check_fault(numbers, None if 1 <= value <= greatest else DEMANDS[place])

    def test_rings(self):
        for numbers, demand in (
            ((8, 17, 1), "root"), ((8, 17, 9), None), ((16, 17, 2), "root"), ((8, 19, 2), "root"), ((8, 3, 1), "root"),
            ((256, 97, 33), "root"), ((8, 49, 1), "q"), ((8, 2, 1), "q"), ((10, 2, 0), "n"), ((8, 4073, 514), None),
        ):
            self.check_fault([*numbers, 1, 1, 1, 1, 1], demand)

    def test_every_order_of_keywords(self):
        for numbers, demand in ((SMALL, None), ((8, 97, 33, 0, 0, 1, 7, 4), "k"), ((8, 98, 0, 1, 9, 1, 0, 4), "q")):
            for names in itertools.islice(itertools.permutations(DEMANDS), 0, None, 1009):
                self.same(parameter_fault(**{name: named(numbers)[name] for name in names}), demand)

    def test_keywords_only(self):
        with self.assertRaises(TypeError):
            parameter_fault(*SMALL)
        with self.assertRaises(TypeError):
            ParameterSet(*SMALL)

    def test_calls(self):
        self.check_calls(parameter_fault, named(SMALL), None, keyword_only=8)
        self.check_calls(parameter_fault, named((8, 97, 33, 1, 1, 1, 7, [])), "v_width", keyword_only=8)


class ParameterSetTest(ProgramTest):

    def test_numbers(self):
        for numbers in all_sets():
            params = ParameterSet(**named(numbers))
            self.same([getattr(params, demand) for demand in DEMANDS], list(numbers))
            self.same(params.numbers, numbers)
            self.assertIsInstance(params.ring, Ring)
            self.same(params.ring.triple, numbers[:3])
            self.assertIs(params.ring == Ring(*numbers[:3]), True)

    def test_lengths(self):
        for n, q, root, k, secret, noise, u, v in all_sets():
            params = set_of([n, q, root, k, secret, noise, u, v])
            self.same(params.message_bytes * 8, n)
            self.same(params.cipher_secret_bytes * 8, 12 * n * k)
            self.same(params.public_bytes, 3 * n * k // 2 + 32)
            self.same(params.secret_bytes, 3 * n * k + 32 + 64)
            self.same(params.letter_bytes * 8, n * k * u + n * v)

    def test_small_lengths(self):
        params = ParameterSet(**named(SMALL))
        found = [params.message_bytes, params.cipher_secret_bytes, params.public_bytes, params.secret_bytes]
        self.same([*found, params.letter_bytes], [1, 12, 44, 120, 11])

    def test_published_lengths(self):
        sets = [published(name) for name in published_names()]
        self.same([params.public_bytes for params in sets], [800, 1184, 1568])
        self.same([params.secret_bytes for params in sets], [1632, 2400, 3168])
        self.same([params.letter_bytes for params in sets], [768, 1088, 1568])
        self.same([params.message_bytes for params in sets], [32, 32, 32])
        self.same([params.cipher_secret_bytes for params in sets], [768, 1152, 1536])

    def test_equal_sets(self):
        for numbers in list(all_sets())[::7]:
            one, other = set_of(numbers), ParameterSet(**named(numbers))
            for first, second in ((one, other), (other, one), (one, one), (one, copy.copy(one))):
                self.assertIs(first == second, True)
                self.assertIs(first != second, False)

    def check_unequal(self, one, other):
        self.assertIs(one == other, False)
        self.assertIs(other == one, False)
        self.assertIs(one != other, True)
        self.assertIs(other != one, True)

    def test_unequal_sets(self):
        for place, value in enumerate((16, 193, 47, 2, 2, 2, 8, 5)):
            numbers = [*SMALL[:place], value, *SMALL[place + 1:]]
            if place == 0:
                numbers[2] = 8
            elif place == 1:
                numbers[2] = 9
            self.check_unequal(set_of(SMALL), set_of(numbers))
        for one, other in itertools.combinations(list(all_sets())[::11], 2):
            self.check_unequal(set_of(one), set_of(other))

    def test_values_of_another_kind(self):
        params = set_of(SMALL)
        line = "8 97 33 1 1 1 7 4"
        for value in (*OTHER_KINDS, SMALL, list(SMALL), params.ring, line, 8, ParameterSet, object(), "ML-KEM-512"):
            self.check_unequal(params, value)

    def test_reading_changes_nothing(self):
        params = set_of(SMALL)
        for _ in range(2):
            self.same([params.numbers, params.ring.triple, params.k, params.letter_bytes], [SMALL, SMALL[:3], 1, 11])
            self.assertIs(params == set_of(SMALL), True)
            self.same([set_line(params), name_of(params)], ["8 97 33 1 1 1 7 4", None])

    def test_two_sets_do_not_influence_each_other(self):
        first, second = set_of(SMALL), published("ML-KEM-768")
        self.same([first.numbers, second.numbers], [SMALL, PUBLISHED["ML-KEM-768"]])
        self.same([first.ring.triple, second.ring.triple], [(8, 97, 33), (256, 3329, 17)])


class SetOfTest(ProgramTest):

    def test_lists_and_tuples(self):
        for numbers in all_sets():
            self.same([set_of(list(numbers)).numbers, set_of(tuple(numbers)).numbers], [numbers, numbers])

    def test_a_later_change_has_no_effect(self):
        numbers = list(SMALL)
        params = set_of(numbers)
        numbers[0] = 16
        numbers.append(5)
        self.same(params.numbers, SMALL)
        self.same([params.n, params.message_bytes, params.public_bytes], [8, 1, 44])
        self.assertIs(params == set_of(list(SMALL)), True)

    def test_numbers_of_values(self):
        for count in (0, 1, 7, 9, 16, 4000):
            for values in ([None] * count, [8] * count, (*SMALL, *[1] * 4000)[:count], [True] * count, [HUGE] * count):
                self.same(refusal(set_of, list(values)), ("BadLength", 8, count))
                self.same(refusal(set_of, tuple(values)), ("BadLength", 8, count))

    def test_calls(self):
        self.check_calls(set_of, {"numbers": list(SMALL)}, set_of(SMALL))
        bad = [((), ("BadLength", 8, 0)), ([*SMALL[:7], 12], ("BadParameters", "v_width"))]
        self.check_refusals(set_of, {"numbers": list(SMALL)}, {"numbers": bad})


class PublishedTest(ProgramTest):

    def test_names(self):
        self.check_calls(published_names, {}, ["ML-KEM-512", "ML-KEM-768", "ML-KEM-1024"])
        published_names().append("ML-KEM-256")
        self.same(published_names(), ["ML-KEM-512", "ML-KEM-768", "ML-KEM-1024"])

    def test_numbers(self):
        for name, numbers in PUBLISHED.items():
            self.same(published(name).numbers, numbers)
            self.check_calls(published, {"name": name}, set_of(numbers))
            self.check_calls(name_of, {"params": set_of(numbers)}, name)
            self.assertIs(published(name) == set_of(numbers), True)

    def test_other_names(self):
        wrong = ["", " ", "ML-KEM", "ML-KEM-", "ML-KEM-511", "ML-KEM-5120", "ml-kem-512", "ML-KEM-512 ", " ML-KEM-512"]
        wrong += ["ML-KEM-512\n", "ML_KEM_512", "MLKEM512", "Kyber512", "512", "ML-KEM-76", "ML-KEM-102", "x" * 60000]
        for name in wrong:
            self.same(refusal(published, name), ("UnknownName", name))
            self.same(refusal(published, name=name), ("UnknownName", name))

    def test_sets_without_a_name(self):
        self.same(name_of(set_of(SMALL)), None)
        for numbers in PUBLISHED.values():
            for place in range(3, 8):
                changed = [*numbers[:place], 1, *numbers[place + 1:]]
                self.same(name_of(set_of(changed)), None)
            self.same(name_of(set_of([256, 3329, 3312, *numbers[3:]])), None)


class SetLineTest(ProgramTest):

    def test_examples(self):
        params = read_set_line("8 97 33 1 1 1 7 4")
        found = [params.numbers, params.public_bytes, params.secret_bytes, params.letter_bytes]
        self.same(found, [(8, 97, 33, 1, 1, 1, 7, 4), 44, 120, 11])

    def test_there_and_back(self):
        for numbers in all_sets():
            line = " ".join(str(number) for number in numbers)
            self.same(set_line(set_of(numbers)), line)
            self.same(read_set_line(line).numbers, numbers)
            self.assertIsInstance(read_set_line(line), ParameterSet)

    def test_calls(self):
        line = "8 97 33 1 1 1 7 4"
        self.check_calls(set_line, {"params": set_of(SMALL)}, line)
        self.check_calls(read_set_line, {"text": line}, set_of(SMALL))

    def test_numbers_of_words(self):
        lines = {
            "": 1, " ": 2, "  ": 3, "8": 1, "x": 1, "8 97 33 1 1 1 7": 7, "8 97 33 1 1 1 7 4 ": 9, "\n": 1,
            " 8 97 33 1 1 1 7 4": 9, "8 97  33 1 1 1 7 4": 9, "8 97 33 1 1 1 7 4 4": 9, "a b c d e f g": 7,
            "8\n97\n33\n1\n1\n1\n7\n4": 1, "8,97,33,1,1,1,7,4": 1, " " * 60000: 60001, "x" * 60000: 1,
            "08 97 33 1 1 1 7": 7, "0 0 0 0 0 0 0": 7, "0 0 0 0 0 0 0 0 0": 9,
        }
        for line, found in lines.items():
            self.same(refusal(read_set_line, line), ("BadLength", 8, found))

    def test_each_word(self):
        wrong = ["", "00", "01", "000", "0001", "12345", "10000", "-1", "+1", "1.", "1\n", "\n", "x", "1x", "x1", "0x1"]
        wrong += ["1_0", "a", "A", "/", ":", "99999", "00000", "08", "1" * 1000, "None", "True", "-"]
        for place in range(8):
            for word in wrong:
                words = [str(number) for number in SMALL]
                words[place] = word
                self.same(refusal(read_set_line, " ".join(words)), ("BadText", place))
                # A later wrong word and broken demands, also earlier ones, are not told.
                words[place + 1:] = ["?"] * (7 - place)
                self.same(refusal(read_set_line, " ".join(words)), ("BadText", place))
                words[:place] = ["0"] * place
                self.same(refusal(read_set_line, " ".join(words)), ("BadText", place))

    def test_an_empty_word_in_place_of_a_number(self):
        self.same(refusal(read_set_line, "8 97  1 1 1 7 4"), ("BadText", 2))
        self.same(refusal(read_set_line, " 97 33 1 1 1 7 4"), ("BadText", 0))
        self.same(refusal(read_set_line, "8 97 33 1 1 1 7 "), ("BadText", 7))
        self.same(refusal(read_set_line, " " * 7), ("BadText", 0))

    def test_broken_demands(self):
        for place, demand in enumerate(DEMANDS):
            for value in (0, 9999, *WRONG[demand]):
                if 0 <= value <= 9999:
                    words = [str(number) for number in SMALL]
                    words[place] = str(value)
                    self.same(refusal(read_set_line, " ".join(words)), ("BadParameters", demand))
                    words[place + 1:] = ["0"] * (7 - place)
                    self.same(refusal(read_set_line, " ".join(words)), ("BadParameters", demand))
        self.same(refusal(read_set_line, "0 0 0 0 0 0 0 0"), ("BadParameters", "n"))
        self.same(refusal(read_set_line, "9999 9999 9999 9999 9999 9999 9999 9999"), ("BadParameters", "n"))

    def test_each_text_is_one_set_or_refused(self):
        for change in ("", "0", " ", "x", "9"):
            line = "8 97 33 1 1 1 7 4"
            for place in range(len(line)):
                for text in (line[:place] + change + line[place + 1:], line[:place] + change + line[place:]):
                    try:
                        params = read_set_line(text)
                    except NoiseboundError:
                        continue
                    self.same(set_line(params), text)


if __name__ == "__main__":
    unittest.main()
