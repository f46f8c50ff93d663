"""The two sides: the sender of the texts, and the taker of the letters."""

from ringpost.bounds import is_whole
from ringpost.errors import NotNow


class Sender:
    """The side that sends texts in letters and hears the answers."""

    def __init__(self, window, ring, many):
        self._window = window
        self._ring = ring
        self._many = many
        self._base = 0
        self._top = 0

    def span(self):
        """The base and the top."""
        return (self._base, self._top)

    def sent(self, k):
        """Sends text k: the number that its letter bears."""
        if not self._may_send(k):
            raise NotNow("this text may not be sent now")
        if k == self._top:
            self._top = k + 1
        return k % self._ring

    def heard(self, number):
        """Takes an answer that bears this number."""
        step = (number - self._base) % self._ring
        if self._base + step <= self._top:
            self._base = self._base + step

    def copied(self):
        """Another sender that stands likewise."""
        other = Sender(self._window, self._ring, self._many)
        other._base = self._base
        other._top = self._top
        return other

    def _may_send(self, k):
        if not is_whole(k) or k < self._base or k > self._top:
            return False
        return k < self._base + self._window and k < self._many


class Taker:
    """The side that takes letters, brings their texts out in order, and answers."""

    def __init__(self, room, ring):
        self._room = room
        self._ring = ring
        self._want = 0
        self._gone = []
        self._kept = {}

    def want(self):
        """The number of the text that comes out next."""
        return self._want

    def gone(self):
        """The texts that came out, in their order."""
        return list(self._gone)

    def kept(self):
        """The places for which a text is kept, each with its text, rising."""
        return sorted(self._kept.items())

    def keeps(self, number):
        """Whether the text of a letter that bears this number would be kept."""
        step = self._step(number)
        return step < self._room and self._want + step not in self._kept

    def came(self, number, text):
        """Takes a letter: the number that its answer bears."""
        if self.keeps(number):
            self._kept[self._want + self._step(number)] = text
        self._bring_out()
        return self._want % self._ring

    def copied(self):
        """Another taker that stands likewise."""
        other = Taker(self._room, self._ring)
        other._want = self._want
        other._gone = list(self._gone)
        other._kept = dict(self._kept)
        return other

    def _step(self, number):
        return (number - self._want) % self._ring

    def _bring_out(self):
        while self._want in self._kept:
            self._gone.append(self._kept.pop(self._want))
            self._want += 1
