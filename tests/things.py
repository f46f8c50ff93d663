"""What the tests share: things of kinds that nobody should hand in, and a run to compare with."""

import random
from decimal import Decimal
from fractions import Fraction

from ringpost.runs import Run

WORDS = ["send", "hand", "tell"]
GREAT = [(20, 20, 20, 20), (20, 20, 0, 0), (20, 1, 20, 0), (20, 1, 0, 20), (1, 1, 20, 20), (7, 3, 5, 2), (5, 5, 2, 9),
         (4, 2, 0, 1), (2, 2, 1, 0)]


def fails(*told, **more):
    raise RuntimeError("nothing may ask this of a thing that is refused")


class Mute:
    """Fails whatever is asked of it, and says that it is an int."""

    __class__ = int
    __bool__ = __len__ = __iter__ = __getitem__ = __contains__ = fails
    __eq__ = __ne__ = __lt__ = __le__ = __gt__ = __ge__ = __hash__ = fails
    __int__ = __index__ = __float__ = __str__ = __repr__ = __format__ = fails
    __add__ = __radd__ = __sub__ = __rsub__ = __mod__ = __rmod__ = fails


class Yes:
    """Equal to all, less than all, greater than all; and in everything."""

    def __eq__(self, other):
        return True

    __lt__ = __le__ = __gt__ = __ge__ = __contains__ = __eq__

    def __hash__(self):
        return 0

    def __index__(self):
        return 1

    def __len__(self):
        return 4

    def __iter__(self):
        return iter((1, 1, 0, 0))


class OddInt(int):
    """An int that compares as it likes."""

    def __eq__(self, other):
        return True

    __lt__ = __le__ = __gt__ = __ge__ = __eq__

    def __hash__(self):
        return 0


class OddTuple(tuple):
    """A tuple that says it has four things, each 1."""

    def __len__(self):
        return 4

    def __iter__(self):
        return iter((1, 1, 1, 1))


class OddList(list):
    """A list that says it is empty."""

    def __len__(self):
        return 0

    def __iter__(self):
        return iter(())


class OddText(str):
    """A str that says it has no signs."""

    def __len__(self):
        return 0


def ring_list():
    """A list that holds itself."""
    held = []
    held.append(held)
    return held


def no_whole_numbers():
    """Things that are no whole numbers, of many kinds."""
    return [
        True, False, None, 0.0, 1.0, 1.5, -0.0, float("nan"), float("inf"), 1j,
        Fraction(1), Fraction(1, 2), Decimal(1), "", "0", "1", "a", b"", b"1",
        bytearray(b"1"), [], [0], [1], (), (0,), (1,), {}, {0: 0}, set(), {1},
        frozenset({1}), range(1), iter([1]), (n for n in (1,)), object(), int,
        str, len, fails, NotImplemented, Ellipsis, ValueError("1"), ring_list(),
        Mute(), Yes(), OddInt(0), OddInt(1), OddTuple((1,)), OddList([1]), OddText("1"),
    ]


def no_steps():
    """Things that are no steps, of many kinds."""
    steps = [
        (), ("send",), ("send", 0, 0), ("send", 0, None), ["send", 0], "send 0", ("send0",), {"send": 0},
        ("tell", (0,)), (("send", 0),), (0, "send"), ("send", "send"), (0, 0), ("sent", 0), ("Send", 0),
        ("SEND", 0), ("send ", 0), (" send", 0), ("", 0), ("s", 0), ("sen", 0), ("sendhand", 0),
        (b"send", 0), (["send"], 0), (("send",), 0), (None, 0), (True, 0), (1.5, 0), (Mute(), 0), (Yes(), 0),
        (OddText("send"), 0), (ring_list(), 0), OddTuple(("send", 0)), OddTuple(("hand",)), OddList(["send", 0]),
    ]
    for word in ["send", "hand", "tell"]:
        steps += [(word, number) for number in [-1, -2, -999999, 1000000, 1000001, 2 ** 64, 10 ** 5000, -10 ** 5000]]
        steps += [(word, thing) for thing in no_whole_numbers()]
    return steps + no_whole_numbers() + list(range(-1, 3))


def texts_of(many):
    """So many texts, no two alike."""
    return [f"t{k}" for k in range(many)]


def stand(run):
    """All that a run tells."""
    return run.out(), run.counts(), run.letters(), run.answers(), run.wrong()


class Model:
    """A run that finds places by looking at one behind the other.

    Where the ring is None, letters bear the number of their text and answers
    the want itself, so nothing is ever taken for something else.
    """

    def __init__(self, bounds, ring, texts):
        self.window, self.room, self.delay, self.back = bounds
        self.ring = ring
        self.texts = texts
        self.base = self.top = self.want = 0
        self.places = {}
        self.posted = []
        self.told = []

    def copied(self):
        other = Model((self.window, self.room, self.delay, self.back), self.ring, self.texts)
        other.base, other.top, other.want = self.base, self.top, self.want
        other.places = dict(self.places)
        other.posted = list(self.posted)
        other.told = list(self.told)
        return other

    def bears(self, number):
        return number if self.ring is None else number % self.ring

    def first(self, number, places):
        """The first place that a thing which bears this number may be meant for."""
        return next((place for place in places if self.bears(place) == number), None)

    def there(self, posted, bound):
        return list(range(max(0, len(posted) - 1 - bound), len(posted)))

    def letters_there(self):
        return self.there(self.posted, self.delay)

    def answers_there(self):
        return self.there(self.told, self.back)

    def may_be_sent(self):
        end = min(self.top + 1, self.base + self.window, len(self.texts))
        return list(range(self.base, end))

    def steps(self):
        """All steps that can be done."""
        return ([("send", k) for k in self.may_be_sent()] + [("hand", j) for j in self.letters_there()]
                + [("tell", i) for i in self.answers_there()])

    def do(self, step):
        """What is told of a step that can be done."""
        word, number = step
        if word == "send":
            self.top = max(self.top, number + 1)
            self.posted.append((self.bears(number), self.texts[number]))
            return len(self.posted) - 1
        if word == "hand":
            return self.come(*self.posted[number])
        place = self.first(self.told[number], range(self.base, self.top + 1))
        self.base = self.base if place is None else place
        return self.base

    def come(self, number, text):
        place = self.first(number, range(self.want, self.want + self.room))
        if place is not None:
            self.places.setdefault(place, text)
        while self.want in self.places:
            self.want += 1
        self.told.append(self.bears(self.want))
        return len(self.told) - 1

    def out(self):
        return [self.places[place] for place in range(self.want)]

    def wrong(self):
        right = all(at < len(self.texts) and self.texts[at] == text for at, text in enumerate(self.out()))
        return not right or self.base > self.want

    def stand(self):
        """All that a run tells which stands likewise."""
        letters = [(j, *self.posted[j]) for j in self.letters_there()]
        answers = [(i, self.told[i]) for i in self.answers_there()]
        return self.out(), (self.base, self.top, self.want), letters, answers, self.wrong()

    def key(self):
        """All that what may come hangs on, but not how many letters and answers there were."""
        letters = tuple(self.posted[j] for j in self.letters_there())
        answers = tuple(self.told[i] for i in self.answers_there())
        return self.base, self.top, self.want, tuple(sorted(self.places.items())), letters, answers


def done(bounds, ring, texts, steps):
    """A run on which these steps were done."""
    run = Run(bounds, ring, texts)
    for step in steps:
        run.do(step)
    return run


def are_steps(told):
    """Whether what was told is a list of steps."""
    if type(told) is not list or any(type(step) is not tuple or len(step) != 2 for step in told):
        return False
    return all(word in WORDS and type(number) is int and 0 <= number <= 999999 for word, number in told)


def rings_of(bounds):
    """The least ring of bounds, and some that are greater."""
    window, room, delay, back = bounds
    least = window + room + max(delay, back)
    return [least, least + 1, 2 * least, 199, 200]


class Walk:
    """Steps by chance, but in a way of its own: which words, and old or new ones."""

    def __init__(self, seed):
        self.chance = random.Random(seed)
        self.shares = [1 + self.pick(6) for _ in WORDS]
        self.ages = [self.pick(4) for _ in WORDS]

    def pick(self, many):
        return int(self.chance.random() * many)

    def step(self, model):
        """A step that can be done, or None where chance picks a word of which none can."""
        which = self.pick(sum(self.shares))
        at = 0 if which < self.shares[0] else 1 if which < self.shares[0] + self.shares[1] else 2
        numbers = [model.may_be_sent, model.letters_there, model.answers_there][at]()
        if not numbers:
            return None
        age = self.ages[at]
        if self.pick(4) == 0 or age == 3:
            return WORDS[at], numbers[self.pick(len(numbers))]
        return WORDS[at], numbers[0] if age == 0 else numbers[-1]
