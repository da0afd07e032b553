import itertools
import re
import unittest

from noisebound.script import is_name, line_of, parse_line
from tests.tools import ProgramTest, refusal

# For each line its words behind the first one: a name, a number or any word.
SHAPES = {
    "set": "nNNNNNNNN", "published": "nw", "keys": "nnNN", "letter": "nnN", "turn": "nnNN", "receive": "nnn",
    "noise": "nn", "bounds": "nn",
}
WORDS = {"n": "name", "N": "number"}
GREAT = "9" * 78

GOOD_NAMES = ("a", "z", "a0", "z9", "set", "turn", "abcdefghijkl", "a01234567899", "x" * 12, "r2d2")
BAD_NAMES = (
    "A", "0", "9a", "aB", "a_", "_a", "a-b", "a.b", "x" * 13, "abcdefghijklm", "a" * 60, "a\n", "\na", "a\nb", "\n",
    "a~", "-", "a\tb", "\u00e4", "a\u00e9", "\u0430", "a\u0663", "a\u00b2", "1", "~", "'", "name!",
)
GOOD_NUMBERS = ("0", "1", "9", "10", "255", "1000", GREAT, "1" + "0" * 77, str(2 ** 256), str(2 ** 256 - 1))
BAD_NUMBERS = (
    "00", "01", "007", "-1", "+1", "1.0", "1e3", "0x1", "1_000", "a", "1a", "a1", "1" * 79, "1" + "0" * 78, "-0", "--1",
    "\n1", "1\n", "1\n2", "\n", "\u0663", "1\u0663", "\u00b2", "\u0661\u0662", "\uff11", "O", "l", "1,000", "~", "0" * 78,
)


def shape_fault_by_rule(text):
    """The fault and the place of a line, or None."""
    words = text.split(" ")
    for place, word in enumerate(words):
        if word == "":
            return ("space", place)
    if words[0] not in SHAPES:
        return ("command", 0)
    due = SHAPES[words[0]]
    if len(words) != len(due) + 1:
        return ("count", len(words))
    for place, (word, kind) in enumerate(zip(words[1:], due), start=1):
        if kind == "n" and not re.fullmatch("[a-z][a-z0-9]{0,11}", word):
            return ("name", place)
        if kind == "N" and not re.fullmatch("0|[1-9][0-9]{0,77}", word):
            return ("number", place)
    return None


def good_line(command, start=0):
    """A line of right words, others for each start."""
    lists = {"n": GOOD_NAMES, "N": GOOD_NUMBERS, "w": ("ML-KEM-512", "x\ny", "3", "A~", "\n")}
    words = [lists[kind][(start + place) % len(lists[kind])] for place, kind in enumerate(SHAPES[command])]
    return " ".join([command, *words])


def read_by_rule(text):
    words = text.split(" ")
    return (words[0], *[int(word) if kind == "N" else word for kind, word in zip(SHAPES[words[0]], words[1:])])


class ParseTest(ProgramTest):

    def check_line(self, text):
        """A line is read or refused as the rule tells."""
        fault = shape_fault_by_rule(text)
        if fault is not None:
            self.same(refusal(parse_line, text), ("BadCommand", *fault, 0))
            return
        command = parse_line(text)
        self.same(command, read_by_rule(text))
        self.same(line_of(command), text)
        self.same(line_of(tuple(command)), text)

    def check_fault(self, text, fault, place):
        self.same(shape_fault_by_rule(text), (fault, place))
        self.check_line(text)

    def test_example(self):
        self.same(parse_line("turn t1 a 3 255"), ("turn", "t1", "a", 3, 255))

    def test_each_line(self):
        for text, expected in (
            ("set a 8 97 33 1 1 1 7 4", ("set", "a", 8, 97, 33, 1, 1, 1, 7, 4)),
            ("published p ML-KEM-512", ("published", "p", "ML-KEM-512")),
            ("keys k a 0 12345678901234567890", ("keys", "k", "a", 0, 12345678901234567890)),
            ("letter l1 k 255", ("letter", "l1", "k", 255)),
            ("turn t l1 0 0", ("turn", "t", "l1", 0, 0)),
            ("receive r k l1", ("receive", "r", "k", "l1")),
            ("noise noise l1", ("noise", "noise", "l1")),
            ("bounds b a", ("bounds", "b", "a")),
        ):
            self.same(parse_line(text), expected)
            self.same(line_of(expected), text)
        for command, start in itertools.product(SHAPES, range(20)):
            self.assertIsNone(shape_fault_by_rule(good_line(command, start)))
            self.check_line(good_line(command, start))

    def test_any_word(self):
        for word in ("ML-KEM-512", "x", "\n", "a\nb", "-1", "007", "~" * 1000, "A", "5", "!"):
            self.same(parse_line(f"published p {word}"), ("published", "p", word))
            self.same(line_of(("published", "p", word)), f"published p {word}")

    def test_space(self):
        for text, place in (
            ("", 0), (" ", 0), ("  ", 0), (" set a 8 97 33 1 1 1 7 4", 0), ("set  a 8 97 33 1 1 1 7 4", 1), ("foo ", 1),
            ("set a 8 97 33 1 1 1 7 4 ", 10), ("set a 8 97 33 1 1 1 7  4", 9), ("foo  bar", 1), ("bounds b ", 2),
            ("bounds b a ", 3), ("published p ", 2), (" foo  bar ", 0), ("bounds A  01", 2), ("a b c d e f ", 6),
        ):
            self.check_fault(text, "space", place)

    def test_command(self):
        for word in ("foo", "Set", "SET", "sets", "se", "a", "1", "\n", "set\n", "\nset", "key", "publish", "turned", "found",
                     "-", "bounds\n", "undo", "run", "x" * 60000):
            self.check_fault(word, "command", 0)
            self.check_fault(f"{word} a 8 97 33 1 1 1 7 4", "command", 0)
            self.check_fault(f"{word} A 01", "command", 0)

    def test_count(self):
        for command, due in SHAPES.items():
            words = good_line(command).split(" ")
            for count in range(1, len(due) + 1):
                self.check_fault(" ".join(words[:count]), "count", count)
                self.check_fault(" ".join([command, *["?"] * (count - 1)]), "count", count)
            for more in (1, 2, 100):
                self.check_fault(" ".join(words + ["a"] * more), "count", len(words) + more)
                self.check_fault(" ".join([command, *["?"] * (len(due) + more)]), "count", len(words) + more)

    def test_names_and_numbers(self):
        for command, due in SHAPES.items():
            words = good_line(command).split(" ")
            for place, kind in enumerate(due, start=1):
                good, bad = {"n": (GOOD_NAMES, BAD_NAMES), "N": (GOOD_NUMBERS, BAD_NUMBERS), "w": ((), ())}[kind]
                for word in good:
                    self.check_line(" ".join([*words[:place], word, *words[place + 1:]]))
                for word in bad:
                    self.check_fault(" ".join([*words[:place], word, *words[place + 1:]]), WORDS[kind], place)
        # Each fault of a word is told as what is due there, also where the word is the other one.
        self.check_fault("bounds b 7", "name", 2)
        self.check_fault("letter l k m", "number", 3)

    def test_several_faults(self):
        for command, due in SHAPES.items():
            words = good_line(command).split(" ")
            for first, second in itertools.combinations(range(1, len(words)), 2):
                bent = [word if place not in (first, second) else "?" for place, word in enumerate(words)]
                self.check_line(" ".join(bent))
                empty = ["" if place == second else word for place, word in enumerate(bent)]
                self.check_fault(" ".join(empty), "space", second)
                self.check_fault(" ".join([*bent, "?"]), "count", len(words) + 1)
                self.check_fault(" ".join(["Foo", *bent[1:]]), "command", 0)
            self.check_fault(" ".join([command, *["?"] * len(due)]), "name", 1)

    def test_lengths(self):
        self.check_line("bounds " + "x" * 12 + " y")
        self.check_fault("bounds " + "x" * 13 + " y", "name", 1)
        self.check_line("keys k a " + GREAT + " " + GREAT)
        self.check_fault("keys k a " + GREAT + "9 " + GREAT, "number", 3)
        self.same(parse_line(f"keys k a {GREAT} 1")[3], 10 ** 78 - 1)

    def test_long_texts(self):
        self.check_line("a" * 60000)
        self.check_line("bounds " + "a" * 59000)
        self.check_line("set " + "9 " * 29000)
        self.check_line(" " * 60000)
        self.check_line("keys k a 1 " + "1" * 59000)

    def test_each_character(self):
        for code in (10, *range(32, 127)):
            for text in (f"bounds {chr(code)} a", f"bounds b{chr(code)} a", f"letter b c {chr(code)}", f"letter b c 1{chr(code)}",
                         f"bounds{chr(code)}b c", f"published p {chr(code)}"):
                self.check_line(text)

    def test_calls(self):
        self.check_calls(parse_line, {"text": "turn t1 a 3 255"}, ("turn", "t1", "a", 3, 255))
        self.check_calls(line_of, {"command": ("turn", "t1", "a", 3, 255)}, "turn t1 a 3 255")
        self.check_calls(is_name, {"word": "t1"}, True)
        self.same(refusal(parse_line, text="turn t1"), ("BadCommand", "count", 2, 0))


class NameTest(ProgramTest):

    def test_names(self):
        for word in GOOD_NAMES:
            self.assertIs(is_name(word), True)
        for word in (*BAD_NAMES, "", " ", "a b", "a ", " a", "x" * 60000):
            self.assertIs(is_name(word), False, word)

    def test_each_character(self):
        for code in (10, *range(32, 127), 0xb2, 0x663, 0x430):
            character = chr(code)
            self.assertIs(is_name(character), bool(re.fullmatch("[a-z]", character)))
            self.assertIs(is_name("a" + character), bool(re.fullmatch("[a-z0-9]", character)))
            self.assertIs(is_name("abcdefghijk" + character), bool(re.fullmatch("[a-z0-9]", character)))

    def test_lengths(self):
        for count in range(16):
            self.assertIs(is_name("n" * count), 1 <= count <= 12)


if __name__ == "__main__":
    unittest.main()
