"""A run: a sender and a taker with a post each way between them."""

from ringpost.bounds import need_bounds, need_ring, need_texts
from ringpost.posts import Post
from ringpost.sides import Sender, Taker
from ringpost.steps import need_step


class Run:
    """Texts that go from a sender to a taker, step by step."""

    def __init__(self, bounds, ring, texts):
        need_bounds(bounds)
        need_ring(ring)
        need_texts(texts)
        window, room, delay, back = bounds
        self._bounds = bounds
        self._ring = ring
        self._texts = list(texts)
        self._sender = Sender(window, ring, len(texts))
        self._taker = Taker(room, ring)
        self._letters = Post(delay)
        self._answers = Post(back)

    def do(self, step):
        """Does a step: the number of the letter or the answer, or the base then."""
        need_step(step)
        word, number = step
        if word == "send":
            return self._send(number)
        if word == "hand":
            return self._hand(number)
        return self._tell(number)

    def out(self):
        """The texts that came out, in their order."""
        return self._taker.gone()

    def counts(self):
        """The base, the top and the want."""
        base, top = self._sender.span()
        return (base, top, self._taker.want())

    def many(self):
        """How many texts there are."""
        return len(self._texts)

    def letters(self):
        """The letters that are there, rising: number, what it bears, text."""
        told = []
        for number in self._letters.there():
            bears, text = self._letters.taken(number)
            told.append((number, bears, text))
        return told

    def useful(self):
        """The numbers of the letters that are there and whose text the taker would keep, rising."""
        return [number for number, bears, _ in self.letters() if self._taker.keeps(bears)]

    def answers(self):
        """The answers that are there, rising: number, what it bears."""
        return [(number, self._answers.taken(number)) for number in self._answers.there()]

    def wrong(self):
        """Whether other texts came out, or the sender holds too many for come."""
        out = self._taker.gone()
        base, _ = self._sender.span()
        return out != self._texts[:len(out)] or base > len(out)

    def copied(self):
        """Another run that stands likewise."""
        other = Run(self._bounds, self._ring, self._texts)
        other._sender = self._sender.copied()
        other._taker = self._taker.copied()
        other._letters = self._letters.copied()
        other._answers = self._answers.copied()
        return other

    def _send(self, k):
        bears = self._sender.sent(k)
        return self._letters.posted((bears, self._texts[k]))

    def _hand(self, j):
        bears, text = self._letters.taken(j)
        return self._answers.posted(self._taker.came(bears, text))

    def _tell(self, i):
        self._sender.heard(self._answers.taken(i))
        base, _ = self._sender.span()
        return base
