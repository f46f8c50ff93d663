"""Things of kinds that nobody should hand in, for the tests of refusals."""

from decimal import Decimal
from fractions import Fraction


def fails(*told, **more):
    raise RuntimeError("nothing may ask this of a thing that is refused")


class Mute:
    """Fails whatever is asked of it, and says that it is an int."""

    __class__ = int
    __bool__ = __len__ = __iter__ = __getitem__ = __contains__ = fails
    __eq__ = __ne__ = __lt__ = __le__ = __gt__ = __ge__ = __hash__ = fails
    __int__ = __index__ = __float__ = __str__ = __repr__ = __format__ = fails
    __add__ = __radd__ = __sub__ = __rsub__ = __mod__ = __rmod__ = fails


class Yes:
    """Equal to all, less than all, greater than all; and in everything."""

    def __eq__(self, other):
        return True

    __lt__ = __le__ = __gt__ = __ge__ = __contains__ = __eq__

    def __hash__(self):
        return 0

    def __index__(self):
        return 1

    def __len__(self):
        return 4

    def __iter__(self):
        return iter((1, 1, 0, 0))


class OddInt(int):
    """An int that compares as it likes."""

    def __eq__(self, other):
        return True

    __lt__ = __le__ = __gt__ = __ge__ = __eq__

    def __hash__(self):
        return 0


class OddTuple(tuple):
    """A tuple that says it has four things, each 1."""

    def __len__(self):
        return 4

    def __iter__(self):
        return iter((1, 1, 1, 1))


class OddList(list):
    """A list that says it is empty."""

    def __len__(self):
        return 0

    def __iter__(self):
        return iter(())


class OddText(str):
    """A str that says it has no signs."""

    def __len__(self):
        return 0


def ring_list():
    """A list that holds itself."""
    held = []
    held.append(held)
    return held


def no_whole_numbers():
    """Things that are no whole numbers, of many kinds."""
    return [
        True, False, None, 0.0, 1.0, 1.5, -0.0, float("nan"), float("inf"), 1j,
        Fraction(1), Fraction(1, 2), Decimal(1), "", "0", "1", "a", b"", b"1",
        bytearray(b"1"), [], [0], [1], (), (0,), (1,), {}, {0: 0}, set(), {1},
        frozenset({1}), range(1), iter([1]), (n for n in (1,)), object(), int,
        str, len, fails, NotImplemented, Ellipsis, ValueError("1"), ring_list(),
        Mute(), Yes(), OddInt(0), OddInt(1), OddTuple((1,)), OddList([1]), OddText("1"),
    ]
