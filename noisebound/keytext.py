"""Key texts: public keys, secret keys and letters as lines of text."""

from noisebound.errors import BadKeyText, BadLength, BadParameters, BadText, UnknownName
from noisebound.hexadecimal import from_hex, is_hex, to_hex
from noisebound.octets import check_bytes
from noisebound.parameters import read_set_line, set_line

KINDS = ("public", "secret", "letter")
TITLE = "noisebound "
END = "end"
BYTES_PER_LINE = 32


def bytes_of_kind(params, kind):
    """Return the number of bytes of a kind."""
    if kind == "public":
        return params.public_bytes
    if kind == "secret":
        return params.secret_bytes
    return params.letter_bytes


def line_sizes(params, kind):
    """List the numbers of bytes that are due on the hexadecimal lines."""
    count = bytes_of_kind(params, kind)
    return [min(BYTES_PER_LINE, count - start) for start in range(0, count, BYTES_PER_LINE)]


def key_to_text(params, kind, data):
    """Write a key or a letter as a text."""
    if kind not in KINDS:
        raise UnknownName(kind)
    check_bytes(data, length=bytes_of_kind(params, kind))
    lines = [TITLE + kind, set_line(params)]
    for start in range(0, len(data), BYTES_PER_LINE):
        lines.append(to_hex(data[start:start + BYTES_PER_LINE]))
    lines.append(END)
    return "\n".join(lines)


def kind_of(line):
    """Return the kind that a first line names, or None."""
    for kind in KINDS:
        if line == TITLE + kind:
            return kind
    return None


def set_of_line(line):
    """Return the set of a second line, or None."""
    try:
        return read_set_line(line)
    except (BadLength, BadText, BadParameters):
        return None


def text_fault(text):
    """Return the first wrong line and what is wrong with it, or None."""
    lines = text.split("\n")
    kind = kind_of(lines[0])
    if kind is None:
        return (1, "header")
    if len(lines) < 2:
        return (2, "set")
    params = set_of_line(lines[1])
    if params is None:
        return (2, "set")
    return rest_fault(lines, line_sizes(params, kind))


def rest_fault(lines, sizes):
    """Return the fault of the lines behind the set line, or None."""
    last = 2 + len(sizes)
    for index in range(2, last):
        if index == len(lines) or not is_form(lines[index], sizes[index - 2]):
            return (index + 1, "hex")
    if len(lines) == last or lines[last] != END:
        return (last + 1, "end")
    if len(lines) > last + 1:
        return (last + 2, "extra")
    return None


def is_form(line, size):
    """Tell if a line is the hexadecimal form of so many bytes."""
    return len(line) == 2 * size and is_hex(line)


def text_to_key(text):
    """Return the kind, the eight numbers and the bytes of a text."""
    fault = text_fault(text)
    if fault is not None:
        raise BadKeyText(fault[0], fault[1])
    lines = text.split("\n")
    params = read_set_line(lines[1])
    return (kind_of(lines[0]), params.numbers, from_hex("".join(lines[2:-1])))
