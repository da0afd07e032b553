"""The published hashes, and the stretchers, which give any number of bytes."""

from noisebound.checks import check_between, check_choice
from noisebound.octets import check_bytes
from noisebound.sponge import MOST_OUTPUT, Sponge, sponge_bytes

HASH_SUFFIX = 6
STRETCH_SUFFIX = 31
STRETCH_RATES = {128: 168, 256: 136}
GREATEST_POSITION = 20000


def hash_32(data):
    """Return the 32 bytes of SHA3-256."""
    return sponge_bytes(data, 32, rate=136, suffix=HASH_SUFFIX)


def hash_64(data):
    """Return the 64 bytes of SHA3-512."""
    return sponge_bytes(data, 64, rate=72, suffix=HASH_SUFFIX)


def stretch_128(data, count):
    """Return the first count bytes of SHAKE128."""
    return sponge_bytes(data, count, rate=STRETCH_RATES[128], suffix=STRETCH_SUFFIX)


def stretch_256(data, count):
    """Return the first count bytes of SHAKE256."""
    return sponge_bytes(data, count, rate=STRETCH_RATES[256], suffix=STRETCH_SUFFIX)


class Stretcher:
    """Reads the stretched bytes of a seed from any position."""

    def __init__(self, seed, *, strength=128):
        check_bytes(seed)
        check_choice("strength", strength, (128, 256))
        self.strength = strength
        self._position = 0
        self._sponge = Sponge(rate=STRETCH_RATES[strength], suffix=STRETCH_SUFFIX)
        self._sponge.absorb(seed)
        # All output so far is kept, because a sponge does not go backward.
        self._output = []

    @property
    def position(self):
        """The number of output bytes before the next one to read."""
        return self._position

    @position.setter
    def position(self, value):
        check_between("position", value, 0, GREATEST_POSITION)
        self._position = value

    def read(self, count):
        """Return the next count bytes and go past them."""
        check_between("count", count, 0, MOST_OUTPUT)
        start = self._position
        self._position = start + count
        self._produce(self._position)
        return self._output[start:self._position]

    def _produce(self, end):
        # One call of squeeze may ask for fewer bytes than a far position needs.
        while len(self._output) < end:
            missing = end - len(self._output)
            self._output.extend(self._sponge.squeeze(min(missing, MOST_OUTPUT)))
