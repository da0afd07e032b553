import itertools
import unittest

from noisebound.hexadecimal import from_hex, hex_fault, is_hex, to_hex
from tests.tools import BAD_BYTES, ProgramTest, out_of_range, refusal

LONG = [(11 * place + place // 256) % 256 for place in range(20000)]
GROUPS = (0, 1, 2, 3, 31, 32, 63, 64)
BAD_GROUPS = out_of_range("group", 0, 64)


def plain_form(data, group):
    """The form by the words of the document, byte by byte."""
    text = ""
    for place, byte in enumerate(data):
        if group > 0 and place > 0 and place % group == 0:
            text += " "
        text += "0123456789abcdef"[byte // 16] + "0123456789abcdef"[byte % 16]
    return text


def plain_fault(text, group):
    """The fault by its definition, for texts of few characters: prefixes of forms are tried."""
    shape = plain_form([0] * (len(text) + 2), group)
    for index, character in enumerate(text):
        allowed = " " if shape[index] == " " else "0123456789abcdef"
        if character not in allowed:
            return index
    lengths = [len(plain_form([0] * count, group)) for count in range(len(text) + 2)]
    return None if len(text) in lengths else len(text)


class ToHexTest(ProgramTest):

    def test_examples(self):
        self.same(to_hex([0, 31, 160], group=1), "00 1f a0")

    def test_forms(self):
        self.same(to_hex([0, 31, 160]), "001fa0")
        self.same(to_hex([0, 31, 160], group=0), "001fa0")
        self.same(to_hex([0, 31, 160], group=2), "001f a0")
        self.same(to_hex([0, 31, 160], group=3), "001fa0")
        self.same(to_hex([0, 31, 160, 5], group=2), "001f a005")
        self.same(to_hex([0, 31, 160], group=64), "001fa0")
        for group in GROUPS:
            self.same(to_hex([], group=group), "")

    def test_forms_by_the_rule(self):
        for group in range(65):
            for count in (1, 2, group, group + 1, 2 * group, 2 * group + 1, 200):
                self.same(to_hex(LONG[:count], group=group), plain_form(LONG[:count], group))

    def test_long(self):
        self.assertEqual(to_hex(LONG), bytes(LONG).hex())
        self.assertEqual(to_hex(LONG, group=1), bytes(LONG).hex(" "))
        self.assertEqual(len(to_hex(LONG, group=1)), 59999)
        self.assertEqual(to_hex(LONG, group=64), plain_form(LONG, 64))

    def test_calls(self):
        self.check_calls(to_hex, {"data": [1, 255], "group": 1}, "01 ff", keyword_only=1)
        self.same(to_hex(data=[1, 255]), "01ff")

    def test_refusals(self):
        bad = {"data": BAD_BYTES, "group": BAD_GROUPS}
        self.check_refusals(to_hex, {"data": [1], "group": 0}, bad)


class HexFaultTest(ProgramTest):

    def test_examples(self):
        self.same(hex_fault("00 1f ", group=1), 6)
        self.same(hex_fault("00F", group=0), 2)

    def test_what_the_document_names(self):
        self.same(hex_fault("00 "), 2)
        self.same(hex_fault("00 ", group=0), 2)
        self.same(hex_fault("00 ", group=1), 3)
        self.same(hex_fault("001"), 3)
        self.same(hex_fault("00 1", group=1), 4)
        self.same(hex_fault(" "), 0)
        self.same(hex_fault(" ", group=1), 0)

    def test_empty_text(self):
        for group in GROUPS:
            self.assertIsNone(hex_fault("", group=group))

    def test_characters_that_never_occur(self):
        for character in "ABFGgz/:`@\n~-_x.":
            self.same(hex_fault(character + "0"), 0)
            self.same(hex_fault("0" + character), 1)
            self.same(hex_fault("00" + character), 2)
            self.same(hex_fault("00" + character, group=1), 2)
            self.same(hex_fault("00 " + character, group=1), 3)

    def test_the_first_of_several_faults(self):
        self.same(hex_fault("0g0G"), 1)
        self.same(hex_fault("00  00", group=1), 3)
        self.same(hex_fault("0000 00", group=1), 2)
        self.same(hex_fault("00 00 00", group=2), 2)
        self.same(hex_fault("0000 0000 0", group=2), 11)
        self.same(hex_fault("0000 0000 ", group=2), 10)

    def test_all_short_texts(self):
        for group in (0, 1, 2, 3, 64):
            for count in range(7):
                for letters in itertools.product("0f F", repeat=count):
                    text = "".join(letters)
                    expected = plain_fault(text, group)
                    self.same(hex_fault(text, group=group), expected)
                    self.same(is_hex(text, group=group), expected is None)

    def test_cut_off_forms(self):
        for group in GROUPS:
            form = plain_form(LONG[:140], group)
            for count in range(len(form) + 1):
                expected = plain_fault(form[:count], group)
                self.same(hex_fault(form[:count], group=group), expected)
                self.assertIn(expected, (None, count))

    def test_long(self):
        for group in (0, 1, 64):
            form = plain_form(LONG, group)
            self.assertIsNone(hex_fault(form, group=group))
            self.same(hex_fault(form[:-1], group=group), len(form) - 1)
            self.same(hex_fault(form[:-1] + "F", group=group), len(form) - 1)

    def test_calls(self):
        self.check_calls(hex_fault, {"text": "00 1", "group": 1}, 4, keyword_only=1)
        self.check_calls(is_hex, {"text": "00 11", "group": 1}, True, keyword_only=1)
        self.same([hex_fault(text="0011"), is_hex(text="0011"), is_hex(text="00 11")], [None, True, False])

    def test_refusals(self):
        self.check_refusals(hex_fault, {"text": "0", "group": 0}, {"group": BAD_GROUPS})
        self.check_refusals(is_hex, {"text": "0", "group": 0}, {"group": BAD_GROUPS})


class FromHexTest(ProgramTest):

    def test_reads(self):
        self.same(from_hex(""), [])
        self.same(from_hex("001fa0"), [0, 31, 160])
        self.same(from_hex("00 1f a0", group=1), [0, 31, 160])
        self.same(from_hex("001f a0", group=2), [0, 31, 160])

    def test_undoes_to_hex(self):
        for group in range(65):
            for count in (0, 1, group, group + 1, 3 * group + 2):
                data = LONG[count:2 * count]
                self.same(from_hex(to_hex(data, group=group), group=group), data)
        for group in (0, 1, 64):
            self.same(from_hex(to_hex(LONG, group=group), group=group), LONG)
        self.same(from_hex(to_hex(list(range(256)))), list(range(256)))

    def test_refuses_faults(self):
        for group in (0, 1, 2):
            for text in ("0", "00 ", "0g", "G0", " 00", "00 0", "0000 ", "00  00", "00\n00", "0A"):
                fault = hex_fault(text, group=group)
                self.assertIsNotNone(fault)
                self.same(refusal(from_hex, text, group=group), ("BadText", fault))
        self.same(refusal(from_hex, "00F"), ("BadText", 2))
        self.same(refusal(from_hex, "00 1f ", group=1), ("BadText", 6))

    def test_calls(self):
        self.check_calls(from_hex, {"text": "01 ff", "group": 1}, [1, 255], keyword_only=1)
        self.same(from_hex(text="01ff"), [1, 255])

    def test_refusals(self):
        self.check_refusals(from_hex, {"text": "00", "group": 0}, {"group": BAD_GROUPS})
        self.same(refusal(from_hex, "x", group=65), ("OutOfRange", "group"))


if __name__ == "__main__":
    unittest.main()
