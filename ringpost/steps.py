"""What steps are, and a trail of steps that are done on a run."""

from ringpost.bounds import is_within
from ringpost.errors import BadStep

MOST_NUMBER = 999999
WORDS = ("send", "hand", "tell")


def is_word(thing):
    """Whether a thing of any kind is the word of a step."""
    return type(thing) is str and thing in WORDS


def is_step(thing):
    """Whether a thing of any kind is a tuple of a word and a number."""
    if type(thing) is not tuple or len(thing) != 2:
        return False
    word, number = thing
    return is_word(word) and is_within(number, 0, MOST_NUMBER)


def need_step(thing):
    """None of a step, else BadStep."""
    if not is_step(thing):
        raise BadStep("a step is a tuple of send, hand or tell and a number from 0 to 999999")


class Trail:
    """The steps that are done on a run, one behind the other."""

    def __init__(self, run):
        self._run = run
        self._steps = []

    def steps(self):
        """The steps that were done."""
        return list(self._steps)

    def done(self, word, number):
        """Does this step: what the run tells of it."""
        step = (word, number)
        told = self._run.do(step)
        self._steps.append(step)
        return told

    def brought(self, k):
        """Sends text k and hands the letter to the taker at once: the answer's number."""
        letter = self.done("send", k)
        return self.done("hand", letter)

    def told_want(self):
        """Tells the sender what the newest answer bears, which is the want."""
        answers = self._run.answers()
        _, want = answers[-1]
        # An older answer that bears the same says the same, and its number is
        # lesser: numbers of steps have an end.
        alike = [number for number, bears in answers if bears == want]
        self.done("tell", alike[0])
