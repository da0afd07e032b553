"""Script lines: the words that a book runs."""

from noisebound.errors import BadCommand
from noisebound.parameters import DIGITS, is_decimal

LETTERS = "abcdefghijklmnopqrstuvwxyz"
LONGEST_NAME = 12
MOST_DIGITS = 78

# What is due behind the first word of each line; a "word" may be any one that is not empty.
SHAPES = {
    "set": ("name", "number", "number", "number", "number", "number", "number", "number", "number"),
    "published": ("name", "word"),
    "keys": ("name", "name", "number", "number"),
    "letter": ("name", "name", "number"),
    "turn": ("name", "name", "number", "number"),
    "receive": ("name", "name", "name"),
    "noise": ("name", "name"),
    "bounds": ("name", "name"),
}


def is_name(word):
    """Tell if a word is a name."""
    if not 1 <= len(word) <= LONGEST_NAME or word[0] not in LETTERS:
        return False
    return all([character in LETTERS or character in DIGITS for character in word])


def fits(word, due):
    """Tell if a word is what is due."""
    if due == "name":
        return is_name(word)
    if due == "number":
        return is_decimal(word, MOST_DIGITS)
    return True


def shape_fault(words):
    """Return the shape fault of a line and its place, or None."""
    if "" in words:
        return ("space", words.index(""))
    if words[0] not in SHAPES:
        return ("command", 0)
    shape = SHAPES[words[0]]
    if len(words) != len(shape) + 1:
        return ("count", len(words))
    for place, due in enumerate(shape, start=1):
        if not fits(words[place], due):
            return (due, place)
    return None


def check_fault(fault, line):
    """Refuse a line that has a fault."""
    if fault is not None:
        raise BadCommand(fault[0], fault[1], line)


def read_command(text, line):
    """Return the words of the line with this index, with integers for its numbers."""
    words = text.split(" ")
    check_fault(shape_fault(words), line)
    shape = SHAPES[words[0]]
    read = [int(word) if due == "number" else word for word, due in zip(words[1:], shape)]
    return (words[0], *read)


def parse_line(text):
    """Return the words of a line, with integers for its numbers."""
    return read_command(text, 0)


def line_of(command):
    """Return the line that these words were read from."""
    return " ".join([str(word) for word in command])
