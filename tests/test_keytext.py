import itertools
import unittest

from noisebound.exchange import make_keys, send
from noisebound.hexadecimal import to_hex
from noisebound.keytext import key_to_text, text_fault, text_to_key
from noisebound.parameters import read_set_line, set_line, set_of
from tests.sets import MIDDLE, PUBLISHED, SMALL, SMALL_SETS, message_of, pair_of, some_bytes
from tests.test_cipher import OTHER_SEED, SEED, TWO_ROWS, bad_bytes
from tests.tools import ProgramTest, refusal

KINDS = ("public", "secret", "letter")
# Letters of 8, 32, 33, 64 and 65 bytes, so that the last line is full in some sets and of one byte in others.
LENGTHS = {
    (8, 97, 33, 1, 1, 1, 7, 1): 8, (8, 97, 33, 2, 1, 1, 11, 10): 32, (8, 97, 33, 2, 1, 1, 11, 11): 33,
    (64, 193, 11, 1, 1, 1, 4, 4): 64, (8, 97, 33, 4, 1, 1, 11, 11): 55, (16, 97, 8, 3, 1, 1, 9, 10): 74,
    (8, 97, 33, 3, 1, 1, 11, 1): 34, (8, 97, 33, 3, 1, 1, 10, 1): 31, (8, 97, 33, 1, 1, 1, 1, 1): 2,
}


def length_of(oracle, kind):
    return {"public": oracle.public_bytes, "secret": oracle.secret_bytes, "letter": oracle.letter_bytes}[kind]


def text_by_rule(numbers, kind, data):
    """A key text, written as the document tells it."""
    lines = ["noisebound " + kind, " ".join(str(number) for number in numbers)]
    digits = "".join(f"{byte:02x}" for byte in data)
    lines += [digits[start:start + 64] for start in range(0, len(digits), 64)]
    return "\n".join([*lines, "end"])


def some_texts():
    for numbers in (*SMALL_SETS, *MIDDLE, *PUBLISHED, *LENGTHS):
        oracle = pair_of(numbers)[1]
        for kind in KINDS:
            count = length_of(oracle, kind)
            for data in ([0] * count, [255] * count, some_bytes(kind, count)):
                yield (numbers, kind, data)


class TextTest(ProgramTest):

    def check_fault(self, text, expected):
        self.same(text_fault(text), expected)
        if expected is not None:
            self.same(refusal(text_to_key, text), ("BadKeyText", *expected))
        else:
            self.same(refusal(text_to_key, text)[0], "answer")


class WritingTest(TextTest):

    def test_examples(self):
        params = read_set_line("8 97 33 1 1 1 7 4")
        text = key_to_text(params, "letter", [0, 1, 2, 3, 4, 5, 6, 7, 8, 9, 10])
        self.same(text, "noisebound letter\n8 97 33 1 1 1 7 4\n000102030405060708090a\nend")
        found = [text_fault(""), text_fault("noisebound letter"), text_fault("noisebound letter\n8 97 33 1 1 1 7 4")]
        self.same(found, [(1, "header"), (2, "set"), (3, "hex")])

    def test_written_and_read_back(self):
        for numbers, kind, data in some_texts():
            text = key_to_text(set_of(numbers), kind, data)
            self.same(text, text_by_rule(numbers, kind, data))
            self.same(text_fault(text), None)
            self.same(text_to_key(text), (kind, numbers, data))

    def test_lengths_of_the_last_line(self):
        for numbers, count in LENGTHS.items():
            data = some_bytes("letter", count)
            lines = key_to_text(set_of(numbers), "letter", data).split("\n")
            sizes = [len(line) // 2 for line in lines[2:-1]]
            self.same(sizes, [32] * ((count - 1) // 32) + [(count - 1) % 32 + 1])
            self.same(sum(sizes), count)

    def test_real_keys(self):
        for numbers in (SMALL, TWO_ROWS, PUBLISHED[2]):
            params, oracle = pair_of(numbers)
            public_key, secret_key = make_keys(params, SEED, OTHER_SEED)
            letter = send(params, public_key, message_of(2, oracle.message_bytes))[1]
            for kind, data in (("public", public_key), ("secret", secret_key), ("letter", letter)):
                text = key_to_text(params, kind, data)
                self.same(text, text_by_rule(numbers, kind, data))
                self.same(text_to_key(text), (kind, numbers, data))

    def test_nothing_else_is_checked(self):
        # Numbers that are not below q, and a hash that is wrong.
        params, oracle = pair_of(SMALL)
        for kind in KINDS:
            data = [255] * length_of(oracle, kind)
            self.same(text_to_key(key_to_text(params, kind, data)), (kind, SMALL, data))

    def test_calls(self):
        params = set_of(SMALL)
        data = list(range(44))
        text = text_by_rule(SMALL, "public", data)
        self.check_calls(key_to_text, {"params": params, "kind": "public", "data": data}, text)
        self.check_calls(text_fault, {"text": text}, None)
        self.check_calls(text_to_key, {"text": text}, ("public", SMALL, data))
        self.check_calls(text_fault, {"text": text + "\n"}, (6, "extra"))

    def test_refusals(self):
        params, oracle = pair_of(SMALL)
        names = ["", "Public", "public ", " public", "publics", "key", "noisebound public", "PUBLIC", "public\n", "a b\nc"]
        bad = {"kind": [(name, ("UnknownName", name)) for name in names]}
        for kind in KINDS:
            count = length_of(oracle, kind)
            bad["data"] = bad_bytes(count)
            good = {"params": params, "kind": kind, "data": some_bytes("good", count)}
            self.check_refusals(key_to_text, good, bad)

    def test_lengths_of_other_kinds(self):
        params, oracle = pair_of(SMALL)
        for kind, other in itertools.permutations(KINDS, 2):
            expected = ("BadLength", length_of(oracle, kind), length_of(oracle, other))
            self.same(refusal(key_to_text, params, kind, [0] * length_of(oracle, other)), expected)


class FaultTest(TextTest):

    def lines_of(self, numbers, kind):
        data = some_bytes(kind, length_of(pair_of(numbers)[1], kind))
        return text_by_rule(numbers, kind, data).split("\n")

    def changed(self, lines, place, line):
        return "\n".join([*lines[:place], line, *lines[place + 1:]])

    def test_header(self):
        lines = self.lines_of(SMALL, "letter")
        for header in (
            "", "noisebound", "noisebound ", "noisebound  letter", "noisebound letter ", " noisebound letter", "letter",
            "Noisebound letter", "noisebound Letter", "noisebound key", "noisebound letters", "noisebound", "end", "noiseboundletter",
            "noisebound public letter", "8 97 33 1 1 1 7 4",
        ):
            self.check_fault(self.changed(lines, 0, header), (1, "header"))
            self.check_fault(header, (1, "header"))
        for text in ("\n", "\n\n", "\n".join(lines[1:]), "\n" + "\n".join(lines), "end", "x" * 60000, "\n" * 3000):
            self.check_fault(text, (1, "header"))

    def test_set(self):
        for kind in KINDS:
            lines = self.lines_of(SMALL, kind)
            for line in (
                "", " ", "8", "8 97 33 1 1 1 7", "8 97 33 1 1 1 7 4 4", "8 97 33 1 1 1 7 4 ", " 8 97 33 1 1 1 7 4",
                "8 97  33 1 1 1 7 4", "8 97 33 1 1 1 7 04", "8 97 33 1 1 1 7 -4", "8 97 33 1 1 1 7 x", "8 97 33 1 1 1 7 12",
                "8 97 33 1 1 1 7 0", "9 97 33 1 1 1 7 4", "8 98 33 1 1 1 7 4", "8 97 34 1 1 1 7 4", "8 97 33 5 1 1 7 4",
                "8 97 33 1 4 1 7 4", "8 97 33 1 1 0 7 4", "8 97 33 1 1 1 00007 4", "00008 97 33 1 1 1 7 4", lines[2], "end",
                "8 10007 33 1 1 1 7 4", "8 97 33 1 1 1 7 99999",
            ):
                self.check_fault(self.changed(lines, 1, line), (2, "set"))
            self.check_fault(lines[0], (2, "set"))
            self.check_fault(lines[0] + "\n", (2, "set"))
            self.check_fault("\n".join([lines[0], *lines[2:]]), (2, "set"))

    def test_hex(self):
        for numbers in (SMALL, (8, 97, 33, 2, 1, 1, 11, 11), (8, 97, 33, 2, 1, 1, 11, 10), (16, 97, 8, 4, 2, 3, 3, 5)):
            for kind in KINDS:
                lines = self.lines_of(numbers, kind)
                for place in range(2, len(lines) - 1):
                    line = lines[place]
                    wrong = ["", "end", line[:-1], line[:-2], line + "0", line + "00", " " + line[1:], line[:-1] + " ",
                             line[:-1] + "g", "A" + line[1:], line[:-1] + "F", line[:2] + " " + line[2:], line + " ",
                             line[:-1] + "\t", "-" + line[1:], "0x" + line[2:], line[:1] + "_" + line[2:], "x" * len(line)]
                    for bent in wrong:
                        self.check_fault(self.changed(lines, place, bent), (place + 1, "hex"))
                    self.check_fault(self.changed(lines, place, "0" * len(line)), None)
                    self.check_fault(self.changed(lines, place, "af" * (len(line) // 2)), None)

    def test_end(self):
        for numbers, kind in itertools.product((SMALL, (8, 97, 33, 2, 1, 1, 11, 10)), KINDS):
            lines = self.lines_of(numbers, kind)
            last = len(lines)
            for line in ("", "End", "end ", " end", "END", "ends", "en", "00", lines[2], "noisebound letter"):
                self.check_fault(self.changed(lines, last - 1, line), (last, "end"))
            self.check_fault("\n".join(lines[:-1]), (last, "end"))
            self.check_fault("\n".join(lines[:-1]) + "\n", (last, "end"))

    def test_extra(self):
        for numbers, kind in itertools.product((SMALL, (8, 97, 33, 2, 1, 1, 11, 10)), KINDS):
            text = "\n".join(self.lines_of(numbers, kind))
            last = len(text.split("\n"))
            for more in ("\n", "\n\n", "\nend", "\n00", "\n ", "\n" * 100, "\n" + text):
                self.check_fault(text + more, (last + 1, "extra"))

    def test_missing_lines(self):
        for numbers in (SMALL, (8, 97, 33, 2, 1, 1, 11, 11), (16, 97, 8, 4, 2, 3, 3, 5)):
            for kind in KINDS:
                lines = self.lines_of(numbers, kind)
                for count in range(1, len(lines)):
                    word = "set" if count == 1 else "end" if count == len(lines) - 1 else "hex"
                    self.check_fault("\n".join(lines[:count]), (count + 1, word))
                for place in range(2, len(lines) - 2):
                    # A full line less leaves a shorter last line where a full one is due, or "end" too early.
                    left = [*lines[:place], *lines[place + 1:]]
                    sizes = [len(line) for line in lines[2:-1]]
                    expected = next(at for at in range(2, len(lines) - 1)
                                    if at == len(left) - 1 or len(left[at]) != sizes[at - 2])
                    self.check_fault("\n".join(left), (expected + 1, "hex"))

    def test_end_too_early(self):
        for kind in KINDS:
            lines = self.lines_of((16, 97, 8, 4, 2, 3, 3, 5), kind)
            for count in range(2, len(lines) - 1):
                self.check_fault("\n".join([*lines[:count], "end"]), (count + 1, "hex"))
        self.check_fault("noisebound public\nend", (2, "set"))
        self.check_fault("noisebound public\n8 97 33 1 1 1 7 4\nend", (3, "hex"))

    def test_one_line_more(self):
        lines = self.lines_of((8, 97, 33, 2, 1, 1, 11, 10), "letter")
        self.assertEqual(len(lines), 4)
        self.check_fault("\n".join([*lines[:3], "00", "end"]), (4, "end"))
        self.check_fault("\n".join([*lines[:3], "", "end"]), (4, "end"))
        self.check_fault("\n".join([*lines[:2], lines[2], lines[2], "end"]), (4, "end"))

    def test_lines_of_another_kind(self):
        for kind, other in itertools.permutations(KINDS, 2):
            lines = self.lines_of(TWO_ROWS, kind)
            lines[0] = "noisebound " + other
            self.assertNotEqual(text_fault("\n".join(lines)), None)
            self.assertIn(text_fault("\n".join(lines))[1], ("hex", "end"))
        # The set line of another set with the same lengths is no fault.
        lines = self.lines_of(SMALL, "public")
        lines[1] = "8 17 2 1 3 3 11 11"
        self.check_fault("\n".join(lines), None)
        self.same(text_to_key("\n".join(lines))[1], (8, 17, 2, 1, 3, 3, 11, 11))

    def test_several_faults(self):
        lines = self.lines_of((16, 97, 8, 4, 2, 3, 3, 5), "secret")
        last = len(lines)
        wrong = {place: "?" for place in range(last)}
        words = ["header", "set", *["hex"] * (last - 3), "end"]
        for first in range(last):
            bent = [wrong[place] if place >= first else line for place, line in enumerate(lines)]
            self.check_fault("\n".join(bent), (first + 1, words[first]))
            self.check_fault("\n".join(bent) + "\n", (first + 1, words[first]))
        for first, second in itertools.combinations(range(last), 2):
            bent = [wrong[place] if place in (first, second) else line for place, line in enumerate(lines)]
            self.check_fault("\n".join(bent), (first + 1, words[first]))

    def test_each_character_changed(self):
        # A text without fault is the text of one kind, set and byte list alone.
        lines = self.lines_of(SMALL, "letter")
        text = "\n".join(lines)
        for place in range(len(text)):
            for character in "0aA \n~8":
                bent = text[:place] + character + text[place + 1:]
                if text_fault(bent) is None:
                    kind, numbers, data = text_to_key(bent)
                    self.same(key_to_text(set_of(numbers), kind, data), bent)
                    self.same(set_line(set_of(numbers)), bent.split("\n")[1])
                else:
                    self.check_fault(bent, text_fault(bent))

    def test_forms(self):
        for numbers, kind, data in some_texts():
            if len(data) <= 64:
                text = key_to_text(set_of(numbers), kind, data)
                self.same("".join(text.split("\n")[2:-1]), to_hex(data))


if __name__ == "__main__":
    unittest.main()
