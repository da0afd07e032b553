"""The two ends of a talk: what they send, and what they make of the byte lists that they take."""

from noisebound.checks import check_between
from noisebound.cipher import check_message
from noisebound.exchange import KEY_BYTES, make_keys, public_fault, receive, send
from noisebound.hashes import stretch_256
from noisebound.octets import check_bytes, split_at

SESSION = 0
HELLO = 1
REPLY = 2
FINISH = 3
TAG_BYTES = 32


def hello_bytes(params):
    """Return the length of a hello."""
    return 1 + params.public_bytes


def reply_bytes(params):
    """Return the length of a reply."""
    return 1 + params.public_bytes + params.letter_bytes + TAG_BYTES


def finish_bytes(params):
    """Return the length of a finish."""
    return 1 + params.letter_bytes + TAG_BYTES


def tag_of(key, number, public_key, letter):
    """Return the tag, or with the number 0 the session key, of an exchanged key."""
    check_bytes(key, length=KEY_BYTES)
    check_between("number", number, 0, 255)
    check_bytes(public_key)
    check_bytes(letter)
    return stretch_256(key + [number] + public_key + letter, TAG_BYTES)


def finish_of(key, public_key, letter):
    """Return the finish that belongs to an exchanged key."""
    return [FINISH] + letter + tag_of(key, FINISH, public_key, letter)


def has_shape(data, first, length):
    """Tell if a byte list has this first byte and this length."""
    return len(data) == length and data[0] == first


class Starter:
    """The end that sends a hello, takes a reply and sends a finish."""

    def __init__(self, params, key_seed, fallback_seed):
        public_key, secret_key = make_keys(params, key_seed, fallback_seed)
        self.state = "new"
        self._params = params
        self._public_key = public_key
        self._secret_key = secret_key
        self._session_key = []
        self._reply = []
        self._finish = []

    @property
    def key(self):
        """The session key, or None as long as there is none."""
        if self.state != "done":
            return None
        return list(self._session_key)

    @property
    def public_key(self):
        """The public key that the hello holds."""
        return list(self._public_key)

    def start(self):
        """Return the hello."""
        if self.state == "new":
            self.state = "waiting"
        return [HELLO] + self._public_key

    def take(self, data):
        """Take a byte list and return the verdict and the answer."""
        check_bytes(data)
        if self.state == "closed":
            return ("late", None)
        if not has_shape(data, REPLY, reply_bytes(self._params)):
            return ("strange", None)
        if self.state == "new":
            return ("early", None)
        if self.state == "waiting":
            return self._judge_reply(data)
        if data == self._reply:
            return ("repeated", list(self._finish))
        return ("late", None)

    def _judge_reply(self, data):
        sizes = [1, self._params.public_bytes, self._params.letter_bytes, TAG_BYTES]
        _, public_key, letter, tag = split_at(data, sizes=sizes)
        if public_key != self._public_key:
            self.state = "closed"
            return ("refused", None)
        key = receive(self._params, self._secret_key, letter)
        if tag != tag_of(key, REPLY, public_key, letter):
            self.state = "closed"
            return ("refused", None)
        self.state = "done"
        self._session_key = tag_of(key, SESSION, public_key, letter)
        self._reply = list(data)
        self._finish = finish_of(key, public_key, letter)
        return ("accepted", list(self._finish))


class Answerer:
    """The end that takes a hello, sends a reply and takes a finish."""

    def __init__(self, params, message):
        check_message(params, message)
        self.state = "new"
        self._params = params
        self._message = list(message)
        self._session_key = []
        self._hello = []
        self._reply = []
        self._finish = []

    @property
    def key(self):
        """The session key, or None as long as there is none."""
        if self.state != "done":
            return None
        return list(self._session_key)

    def take(self, data):
        """Take a byte list and return the verdict and the answer."""
        check_bytes(data)
        if self.state == "closed":
            return ("late", None)
        # A hello and a finish can have the same length, so the first byte counts too.
        if has_shape(data, HELLO, hello_bytes(self._params)):
            return self._take_hello(data)
        if has_shape(data, FINISH, finish_bytes(self._params)):
            return self._take_finish(data)
        return ("strange", None)

    def _take_hello(self, data):
        if self.state == "new":
            return self._judge_hello(data)
        if data == self._hello:
            return ("repeated", list(self._reply))
        return ("late", None)

    def _judge_hello(self, data):
        public_key = data[1:]
        if public_fault(self._params, public_key) is not None:
            self.state = "closed"
            return ("refused", None)
        key, letter = send(self._params, public_key, self._message)
        self.state = "replied"
        self._session_key = tag_of(key, SESSION, public_key, letter)
        self._hello = list(data)
        self._reply = [REPLY] + public_key + letter + tag_of(key, REPLY, public_key, letter)
        # The only finish with the answerer's own letter and the right tag.
        self._finish = finish_of(key, public_key, letter)
        return ("accepted", list(self._reply))

    def _take_finish(self, data):
        if self.state == "new":
            return ("early", None)
        fits = data == self._finish
        if self.state == "done":
            return ("repeated" if fits else "late", None)
        self.state = "done" if fits else "closed"
        return ("accepted" if fits else "refused", None)
