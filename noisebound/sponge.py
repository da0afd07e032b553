"""Padding, and the sponge that takes bytes and returns bytes."""

from noisebound.checks import check_between, is_between
from noisebound.errors import BadPadding, OutOfRange, WrongPhase
from noisebound.octets import check_bytes
from noisebound.permutation import bytes_from_state, permute, state_from_bytes

MOST_OUTPUT = 20000


def check_shape(rate, suffix):
    """Refuse what is not a rate, then what is not a suffix."""
    if not is_between(rate, 8, 192) or rate % 8 != 0:
        raise OutOfRange("rate")
    check_between("suffix", suffix, 1, 127)


def pad(data, *, rate, suffix):
    """Fill a byte list up to the next larger multiple of the rate."""
    check_bytes(data)
    check_shape(rate, suffix)
    missing = rate - len(data) % rate
    if missing == 1:
        return data + [suffix + 128]
    return data + [suffix] + [0] * (missing - 2) + [128]


def unpad(padded, *, rate, suffix):
    """Return the byte list whose padded form this is."""
    check_bytes(padded)
    check_shape(rate, suffix)
    if padded == [] or len(padded) % rate != 0:
        raise BadPadding()
    end = padding_start(padded, suffix)
    if end < len(padded) - rate:
        raise BadPadding()
    return padded[:end]


def padding_start(padded, suffix):
    """Return the index of the first byte of what can be a padding, or -1."""
    place = len(padded) - 1
    if padded[place] == suffix + 128:
        return place
    if padded[place] != 128:
        return -1
    place = place - 1
    while place >= 0 and padded[place] == 0:
        place = place - 1
    if place >= 0 and padded[place] == suffix:
        return place
    return -1


class Sponge:
    """Takes bytes in pieces, then returns bytes in pieces."""

    def __init__(self, *, rate, suffix):
        check_shape(rate, suffix)
        self.rate = rate
        self.suffix = suffix
        self.phase = "absorbing"
        self.absorbed = 0
        self.squeezed = 0
        self._state = [0] * 25
        # Bytes taken that fill no block yet, and bytes of the state not returned yet.
        self._waiting = []
        self._ready = []

    def absorb(self, data):
        """Take a byte list."""
        check_bytes(data)
        if self.phase == "squeezing":
            raise WrongPhase()
        self._waiting = self._take_blocks(self._waiting + data)
        self.absorbed = self.absorbed + len(data)

    def squeeze(self, count):
        """Return the next count bytes of output."""
        check_between("count", count, 0, MOST_OUTPUT)
        if self.phase == "absorbing":
            self._change_phase()
        output = []
        while len(output) < count:
            if self._ready == []:
                self._state = permute(self._state)
                self._ready = self._front()
            piece = self._ready[:count - len(output)]
            self._ready = self._ready[len(piece):]
            output.extend(piece)
        self.squeezed = self.squeezed + count
        return output

    def fork(self):
        """Return a sponge that goes on from here on its own."""
        twin = Sponge(rate=self.rate, suffix=self.suffix)
        twin.phase = self.phase
        twin.absorbed = self.absorbed
        twin.squeezed = self.squeezed
        twin._state = list(self._state)
        twin._waiting = list(self._waiting)
        twin._ready = list(self._ready)
        return twin

    def _take_blocks(self, data):
        whole = len(data) - len(data) % self.rate
        for start in range(0, whole, self.rate):
            block = state_from_bytes(data[start:start + self.rate] + [0] * (200 - self.rate))
            self._state = permute([lane ^ more for lane, more in zip(self._state, block)])
        return data[whole:]

    def _change_phase(self):
        self._take_blocks(pad(self._waiting, rate=self.rate, suffix=self.suffix))
        self._waiting = []
        self._ready = self._front()
        self.phase = "squeezing"

    def _front(self):
        return bytes_from_state(self._state)[:self.rate]


def sponge_bytes(data, count, *, rate, suffix):
    """Return the first count bytes of output for data."""
    check_bytes(data)
    check_between("count", count, 0, MOST_OUTPUT)
    sponge = Sponge(rate=rate, suffix=suffix)
    sponge.absorb(data)
    return sponge.squeeze(count)
