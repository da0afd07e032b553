"""Talks: a starter and an answerer, joined by a list of deeds."""

from noisebound.checks import first_unlike, is_same
from noisebound.ends import Answerer, Starter
from noisebound.octets import change_byte


class Talk:
    """Two ends, the byte lists that they sent, and a row for each deed."""

    def __init__(self, params, key_seed, fallback_seed, message):
        self._starter = Starter(params, key_seed, fallback_seed)
        self._answerer = Answerer(params, message)
        self._rows = []
        self._sent = []
        # For each byte list that was sent, whether the starter sent it.
        self._by_starter = []

    @property
    def rows(self):
        """The rows of all deeds so far."""
        return list(self._rows)

    @property
    def sent(self):
        """All byte lists sent so far."""
        return [list(data) for data in self._sent]

    @property
    def starter_key(self):
        """The session key of the starter, or None."""
        return self._starter.key

    @property
    def answerer_key(self):
        """The session key of the answerer, or None."""
        return self._answerer.key

    @property
    def journal(self):
        """The rows of all deeds so far and the two keys."""
        return (list(self._rows), self._starter.key, self._answerer.key)

    def do(self, deed):
        """Do a deed and return its row."""
        if deed[0] == "start":
            return self._finish_deed("started", self._starter.start(), True)
        data = self._handed(deed)
        if data is None:
            return self._finish_deed("nothing", None, False)
        if self._by_starter[deed[1]]:
            verdict, answer = self._answerer.take(data)
            return self._finish_deed(verdict, answer, False)
        verdict, answer = self._starter.take(data)
        return self._finish_deed(verdict, answer, True)

    def _handed(self, deed):
        # None stands for a byte list or an item that is not there.
        if deed[1] >= len(self._sent):
            return None
        data = self._sent[deed[1]]
        if deed[0] == "give":
            return data
        if deed[2] >= len(data):
            return None
        return change_byte(data, deed[2], deed[3])

    def _finish_deed(self, verdict, answer, by_starter):
        number = None
        if answer is not None:
            number = len(self._sent)
            self._sent.append(answer)
            self._by_starter.append(by_starter)
        row = (verdict, number, self._starter.state, self._answerer.state)
        self._rows.append(row)
        return row


def run_talk(params, key_seed, fallback_seed, message, deeds):
    """Return the journal of a new talk that did these deeds."""
    talk = Talk(params, key_seed, fallback_seed, message)
    for deed in deeds:
        talk.do(deed)
    return talk.journal


def is_talk_journal(params, key_seed, fallback_seed, message, deeds, paper):
    """Tell if a paper is the journal of these deeds."""
    return is_same(paper, run_talk(params, key_seed, fallback_seed, message, deeds))


def first_wrong_row(params, key_seed, fallback_seed, message, deeds, rows):
    """Return the index of the first row that is not the one of these deeds, or None."""
    right, _, _ = run_talk(params, key_seed, fallback_seed, message, deeds)
    return first_unlike(rows, right)
