"""Promise 2, and the first sentence of promise 9."""

import unittest

from ringpost.bounds import least_ring, need_bounds, need_ring, need_texts
from ringpost.errors import BadBounds, BadRing, BadTexts
from tests.things import OddInt, OddList, OddText, OddTuple, no_whole_numbers

GOOD_BOUNDS = [
    (1, 1, 0, 0), (20, 20, 20, 20), (20, 1, 0, 0), (20, 1, 20, 0), (20, 1, 0, 20),
    (20, 20, 0, 0), (7, 7, 3, 5), (7, 1, 3, 5), (7, 4, 20, 0), (2, 2, 0, 20), (1, 1, 20, 20),
]
BAD_NUMBERS = [
    (0, 0, 0, 0), (0, 1, 0, 0), (-1, 1, 0, 0), (-1, -1, 0, 0), (21, 1, 0, 0), (21, 21, 0, 0),
    (5, 0, 0, 0), (5, -1, 0, 0), (5, 6, 0, 0), (1, 2, 0, 0), (20, 21, 0, 0),
    (5, 5, -1, 0), (5, 5, 21, 0), (5, 5, 0, -1), (5, 5, 0, 21), (5, 5, 21, 21),
    (10 ** 5000, 1, 0, 0), (5, 10 ** 5000, 0, 0), (5, 5, 10 ** 5000, 0), (5, 5, 0, 10 ** 5000),
    (-10 ** 5000, 1, 0, 0), (5, -10 ** 5000, 0, 0), (5, 5, -10 ** 5000, 0), (5, 5, 0, -10 ** 5000),
]


def bad_shapes():
    """Things that are no tuple of four."""
    return [
        (), (1,), (1, 1), (1, 1, 0), (1, 1, 0, 0, 0), [1, 1, 0, 0], "1100", b"\x01\x01\x00\x00",
        {1: 1, 2: 1, 3: 0, 4: 0}, {1, 2, 3, 4}, range(1, 5), iter((1, 1, 0, 0)), ((1, 1, 0, 0),),
        (n for n in (1, 1, 0, 0)), OddTuple((1, 1, 0, 0)), OddTuple(()), OddList([1, 1, 0, 0]),
    ] + no_whole_numbers() + [0, 1, 4, -1]


def with_one_else(at, thing):
    """Bounds with another thing in one place."""
    parts = [1, 1, 0, 0]
    parts[at] = thing
    return tuple(parts)


class TestNeedBounds(unittest.TestCase):
    def refused(self, thing):
        for ask in (need_bounds, least_ring):
            with self.assertRaises(BadBounds) as caught:
                ask(thing)
            self.assertIs(caught.exception.__class__, BadBounds)

    def test_good_ones(self):
        for bounds in GOOD_BOUNDS:
            with self.subTest(bounds):
                self.assertIsNone(need_bounds(bounds))

    def test_every_window_and_room(self):
        for window in range(-1, 23):
            for room in range(-1, 23):
                if 1 <= room <= window <= 20:
                    self.assertIsNone(need_bounds((window, room, 0, 0)))
                else:
                    self.refused((window, room, 0, 0))

    def test_every_delay_and_back(self):
        for delay in range(-2, 23):
            for back in range(-2, 23):
                if 0 <= delay <= 20 and 0 <= back <= 20:
                    self.assertIsNone(need_bounds((3, 2, delay, back)))
                else:
                    self.refused((3, 2, delay, back))

    def test_numbers_beyond(self):
        for bounds in BAD_NUMBERS:
            with self.subTest(BAD_NUMBERS.index(bounds)):
                self.refused(bounds)

    def test_no_tuple_of_four(self):
        for at, thing in enumerate(bad_shapes()):
            with self.subTest(at):
                self.refused(thing)

    def test_other_things_in_each_place(self):
        for at in range(4):
            for which, thing in enumerate(no_whole_numbers()):
                with self.subTest(at=at, which=which):
                    self.refused(with_one_else(at, thing))

    def test_true_and_false_are_no_bounds(self):
        self.refused((True, True, False, False))
        self.refused((True, 1, 0, 0))
        self.refused((1, True, 0, 0))
        self.refused((1, 1, False, 0))
        self.refused((1, 1, 0, False))
        self.refused((1, 1, 0, True))

    def test_a_refused_list_stays(self):
        held = [1, 1, 0, 0]
        self.refused(held)
        self.assertEqual(held, [1, 1, 0, 0])


class TestLeastRing(unittest.TestCase):
    def test_by_hand(self):
        for bounds, ring in [
            ((1, 1, 0, 0), 2), ((20, 20, 20, 20), 60), ((7, 4, 3, 5), 16), ((7, 4, 5, 3), 16),
            ((7, 4, 0, 5), 16), ((7, 4, 5, 0), 16), ((7, 4, 5, 5), 16), ((9, 1, 0, 0), 10),
            ((1, 1, 20, 0), 22), ((1, 1, 0, 20), 22), ((3, 2, 1, 0), 6), ((3, 2, 0, 1), 6),
        ]:
            with self.subTest(bounds):
                self.assertEqual(least_ring(bounds), ring)
                self.assertIs(type(least_ring(bounds)), int)

    def test_delay_and_back_both_ways(self):
        for more in range(21):
            for less in range(more + 1):
                self.assertEqual(least_ring((6, 5, more, less)), 11 + more)
                self.assertEqual(least_ring((6, 5, less, more)), 11 + more)

    def test_window_and_room(self):
        for window in range(1, 21):
            for room in range(1, window + 1):
                self.assertEqual(least_ring((window, room, 4, 9)), window + room + 9)


class TestNeedRing(unittest.TestCase):
    def refused(self, thing):
        with self.assertRaises(BadRing) as caught:
            need_ring(thing)
        self.assertIs(caught.exception.__class__, BadRing)

    def test_all_good_ones(self):
        for ring in range(1, 201):
            self.assertIsNone(need_ring(ring))

    def test_numbers_beyond(self):
        for ring in [0, -1, -2, -200, 201, 202, 1000, 10 ** 5000, -10 ** 5000]:
            self.refused(ring)

    def test_things_that_are_no_number(self):
        for which, thing in enumerate(no_whole_numbers() + [2.0, 200.0, "200", OddInt(5)]):
            with self.subTest(which):
                self.refused(thing)


class TestNeedTexts(unittest.TestCase):
    def refused(self, thing):
        with self.assertRaises(BadTexts) as caught:
            need_texts(thing)
        self.assertIs(caught.exception.__class__, BadTexts)

    def test_good_ones(self):
        for texts in [[], [""], ["a"], ["a", "a"], [" ", "~"], ["x" * 40], ["x" * 39, "", "y" * 40]]:
            self.assertIsNone(need_texts(texts))

    def test_every_sign_of_a_text(self):
        signs = [chr(n) for n in range(32, 127) if n != 37]
        self.assertIsNone(need_texts(signs))
        self.assertIsNone(need_texts(["".join(signs[:40]), "".join(signs[40:80]), "".join(signs[80:])]))

    def test_how_many_texts(self):
        for many in [0, 1, 2, 399, 400]:
            self.assertIsNone(need_texts(["t"] * many))
            self.assertIsNone(need_texts(["t" * 40] * many))
        for many in [401, 402, 1000]:
            self.refused(["t"] * many)
            self.refused([""] * many)

    def test_how_many_signs(self):
        for many in range(41):
            self.assertIsNone(need_texts(["x" * many]))
        for many in [41, 42, 80, 10000]:
            self.refused(["x" * many])
            self.refused(["x" * many, "a"])
            self.refused(["a", "x" * many])
            self.refused(["a", "x" * many, "a"])
            self.refused(["a"] * 399 + ["x" * many])

    def test_things_that_are_no_list(self):
        things = [thing for thing in no_whole_numbers() if type(thing) is not list]
        more = ["a", ("a",), ("a", "b"), {"a": "b"}, {"a"}, 0, 1, iter(["a"]), OddList(["a"])]
        for which, thing in enumerate(things + more):
            with self.subTest(which):
                self.refused(thing)

    def test_things_in_the_list_that_are_no_text(self):
        things = [thing for thing in no_whole_numbers() if type(thing) is not str]
        more = [0, 1, -1, ["a"], ("a",), b"a", {"a"}, OddText("a"), OddText("x" * 41)]
        for which, thing in enumerate(things + more):
            with self.subTest(which):
                self.refused([thing])
                self.refused([thing, "a"])
                self.refused(["a", thing])
                self.refused(["a", thing, "a"])

    def test_the_list_stays_as_it_was(self):
        texts = ["a", "", "b" * 40]
        need_texts(texts)
        self.assertEqual(texts, ["a", "", "b" * 40])
        bad = ["a", "b" * 41, "c", None]
        self.refused(bad)
        self.assertEqual(bad, ["a", "b" * 41, "c", None])
        long = ["a"] * 401
        self.refused(long)
        self.assertEqual(long, ["a"] * 401)

    def test_the_list_is_looked_at_each_time(self):
        texts = ["a"]
        need_texts(texts)
        texts.append(None)
        self.refused(texts)
        texts.pop()
        self.assertIsNone(need_texts(texts))


if __name__ == "__main__":
    unittest.main()
