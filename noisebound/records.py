"""Records: sealed bodies under a session key, channels of them, and mailboxes of letters."""

from noisebound.checks import check_between
from noisebound.errors import BadRecord
from noisebound.exchange import check_sent, make_keys, receive
from noisebound.hashes import stretch_256
from noisebound.hexadecimal import to_hex
from noisebound.octets import check_bytes, little_bytes, little_integer, xor_bytes
from noisebound.sampling import check_seed

KEY_BYTES = 32
NUMBER_BYTES = 4
GREATEST_NUMBER = 4294967295
TAG_BYTES = 32
MASK = 1
TAG = 2
CHAIN = 9


def check_side_of_key(session_key, side):
    """Refuse what is not a session key, then what is not a side."""
    check_seed(session_key)
    check_between("side", side, 0, 1)


def check_place(session_key, side, number):
    """Refuse what a record cannot belong to."""
    check_side_of_key(session_key, side)
    check_between("number", number, 0, GREATEST_NUMBER)


def record_key(session_key, side, number):
    """Return the key of one record."""
    check_place(session_key, side, number)
    return stretch_256(session_key + [side] + little_bytes(NUMBER_BYTES, number), KEY_BYTES)


def mask(key, data):
    """Mask a body, or take the mask off again."""
    return xor_bytes(data, stretch_256(key + [MASK], len(data)))


def record_tag(key, covered):
    """Return the tag of a masked body."""
    return stretch_256(key + [TAG] + covered, TAG_BYTES)


def seal(session_key, side, number, body):
    """Return the record of a body."""
    check_place(session_key, side, number)
    check_bytes(body)
    key = record_key(session_key, side, number)
    covered = mask(key, body)
    return little_bytes(NUMBER_BYTES, number) + covered + record_tag(key, covered)


def unseal(session_key, side, record):
    """Return the number and the body of a record."""
    check_side_of_key(session_key, side)
    check_bytes(record)
    end = len(record) - TAG_BYTES
    if end < NUMBER_BYTES:
        raise BadRecord("length")
    number = little_integer(record[:NUMBER_BYTES])
    covered = record[NUMBER_BYTES:end]
    key = record_key(session_key, side, number)
    if record[end:] != record_tag(key, covered):
        raise BadRecord("tag")
    return (number, mask(key, covered))


def chain_key(key, steps):
    """Return the key after so many steps of its chain."""
    check_seed(key)
    check_between("steps", steps, 0, 64)
    reached = list(key)
    for _ in range(steps):
        reached = stretch_256(reached + [CHAIN], KEY_BYTES)
    return reached


class Channel:
    """Seals bodies for the other side and takes its records, each number once."""

    def __init__(self, session_key, side):
        check_side_of_key(session_key, side)
        self.side = side
        self._session_key = list(session_key)
        self._sealed = 0
        self._opened = {}

    @property
    def sent(self):
        """The number of records sealed so far."""
        return self._sealed

    @property
    def taken(self):
        """The numbers of the records taken so far, ascending."""
        return sorted(list(self._opened))

    def seal_next(self, body):
        """Return the next record."""
        record = seal(self._session_key, self.side, self._sealed, body)
        self._sealed = self._sealed + 1
        return record

    def take(self, record):
        """Take a record of the other side and return its number and body."""
        number, body = unseal(self._session_key, 1 - self.side, record)
        if number in self._opened:
            raise BadRecord("repeated")
        self._opened[number] = True
        return (number, body)


class Mailbox:
    """Takes letters with one key pair and keeps the key of each distinct one."""

    def __init__(self, params, key_seed, fallback_seed):
        public_key, secret_key = make_keys(params, key_seed, fallback_seed)
        self._params = params
        self._public_key = public_key
        self._secret_key = secret_key
        self._numbers = {}
        self._received = []
        self._texts = []

    @property
    def public_key(self):
        """The public key to which letters are sent."""
        return list(self._public_key)

    def __len__(self):
        return len(self._received)

    def __contains__(self, x):
        check_bytes(x)
        return tuple(x) in self._numbers

    def __iter__(self):
        return iter(self._texts)

    def take(self, letter):
        """Take a letter and return its number and its key."""
        check_sent(self._params, letter)
        name = tuple(letter)
        if name not in self._numbers:
            key = receive(self._params, self._secret_key, letter)
            self._numbers[name] = len(self._received)
            self._received.append(key)
            self._texts.append(to_hex(key))
        number = self._numbers[name]
        return (number, list(self._received[number]))

    def key_of(self, number):
        """Return the key of the letter with this number."""
        check_between("number", number, 0, len(self._received) - 1)
        return list(self._received[number])
