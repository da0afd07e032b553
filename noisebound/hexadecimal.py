"""Byte lists as hexadecimal text, and the faults of such text."""

from noisebound.checks import check_between
from noisebound.errors import BadText
from noisebound.octets import check_bytes

DIGITS = "0123456789abcdef"


def check_group(group):
    """Refuse what is not a group size."""
    check_between("group", group, 0, 64)


def to_hex(data, *, group=0):
    """Write a byte list in its only form for this group size."""
    check_bytes(data)
    check_group(group)
    pairs = [f"{byte:02x}" for byte in data]
    if group == 0:
        return "".join(pairs)
    return " ".join(["".join(pairs[start:start + group]) for start in range(0, len(pairs), group)])


def is_space_due(index, group):
    """Tell if a form that is long enough has a space at this index."""
    return group > 0 and index % (2 * group + 1) == 2 * group


def is_cut_off(length, group):
    """Tell if the first length characters of longer forms are no form themselves."""
    if group == 0:
        return length % 2 == 1
    digits = length % (2 * group + 1)
    # No digit in the last group means that the text ends with the space before it.
    return digits % 2 == 1 or (digits == 0 and length > 0)


def hex_fault(text, *, group=0):
    """Return the index at which the text stops being a form, or None."""
    check_group(group)
    for index, character in enumerate(text):
        if is_space_due(index, group):
            if character != " ":
                return index
        elif character not in DIGITS:
            return index
    if is_cut_off(len(text), group):
        return len(text)
    return None


def is_hex(text, *, group=0):
    """Tell if the text is a form for this group size."""
    return hex_fault(text, group=group) is None


def from_hex(text, *, group=0):
    """Read the byte list whose form the text is."""
    fault = hex_fault(text, group=group)
    if fault is not None:
        raise BadText(fault)
    digits = text.replace(" ", "")
    return [int(digits[start:start + 2], 16) for start in range(0, len(digits), 2)]
