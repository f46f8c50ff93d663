"""Promise 4: the taker."""

import unittest
from itertools import product

from ringpost.sides import Taker


class Model:
    """A taker that finds the place by looking at one place after another."""

    def __init__(self, room, ring):
        self.room = room
        self.ring = ring
        self.places = {}
        self.want = 0

    def came(self, number, text):
        near = range(self.want, self.want + min(self.room, self.ring))
        for place in near:
            if place % self.ring == number % self.ring:
                self.places.setdefault(place, text)
        while self.want in self.places:
            self.want += 1
        return self.want % self.ring

    def told(self):
        gone = [self.places[place] for place in range(self.want)]
        kept = [(place, self.places[place]) for place in sorted(self.places) if place >= self.want]
        return self.want, gone, kept


def told(taker):
    """All that a taker tells."""
    return taker.want(), taker.gone(), taker.kept()


def after(room, ring, many):
    """A taker out of which so many texts came."""
    taker = Taker(room, ring)
    for k in range(many):
        taker.came(k % ring, f"t{k}")
    return taker


class TestTaker(unittest.TestCase):
    def came(self, taker, number, text, answer):
        got = taker.came(number, text)
        self.assertEqual(got, answer)
        self.assertIs(type(got), int)

    def test_at_first(self):
        self.assertEqual(told(Taker(1, 2)), (0, [], []))
        self.assertEqual(told(Taker(20, 200)), (0, [], []))

    def test_kinds(self):
        taker = Taker(3, 6)
        taker.came(0, "a")
        taker.came(2, "c")
        self.assertIs(type(taker.want()), int)
        self.assertIs(type(taker.gone()), list)
        self.assertIs(type(taker.kept()), list)
        self.assertEqual([type(pair) for pair in taker.kept()], [tuple])
        self.assertEqual([type(part) for part in taker.kept()[0]], [int, str])

    def test_one_behind_the_other(self):
        taker = Taker(1, 3)
        for k, text in enumerate("abcdefg"):
            self.came(taker, k % 3, text, (k + 1) % 3)
        self.assertEqual(told(taker), (7, list("abcdefg"), []))

    def test_one_that_is_kept(self):
        taker = Taker(3, 6)
        self.came(taker, 1, "b", 0)
        self.assertEqual(told(taker), (0, [], [(1, "b")]))
        self.came(taker, 0, "a", 2)
        self.assertEqual(told(taker), (2, ["a", "b"], []))

    def test_many_come_out_at_once(self):
        taker = Taker(20, 40)
        for place in range(19, 0, -1):
            self.came(taker, place, f"t{place}", 0)
        self.assertEqual(taker.kept(), [(place, f"t{place}") for place in range(1, 20)])
        self.came(taker, 0, "t0", 20)
        self.assertEqual(told(taker), (20, [f"t{k}" for k in range(20)], []))

    def test_only_up_to_the_first_gap(self):
        taker = Taker(6, 12)
        for place in [5, 1, 2, 4]:
            self.came(taker, place, str(place), 0)
        self.came(taker, 0, "0", 3)
        self.assertEqual(told(taker), (3, ["0", "1", "2"], [(4, "4"), (5, "5")]))
        self.came(taker, 3, "3", 6)
        self.assertEqual(told(taker), (6, list("012345"), []))

    def test_kept_ones_rise(self):
        taker = Taker(5, 10)
        for place in [4, 2, 3, 1]:
            taker.came(place, f"t{9 - place}")
        self.assertEqual(taker.kept(), [(1, "t8"), (2, "t7"), (3, "t6"), (4, "t5")])

    def test_kept_ones_rise_by_number_beyond_nine(self):
        taker = after(5, 20, 8)
        for number in [11, 9, 12, 10]:
            taker.came(number, "x")
        self.assertEqual([place for place, _ in taker.kept()], [9, 10, 11, 12])

    def test_ahead_of_the_want(self):
        for number in range(3):
            taker = after(3, 8, 3)
            self.came(taker, number, "old", 3)
            self.assertEqual(told(taker), (3, ["t0", "t1", "t2"], []))

    def test_the_edge_of_the_room(self):
        taker = after(3, 8, 3)
        self.came(taker, 5, "in", 3)
        self.assertEqual(taker.kept(), [(5, "in")])
        for number in [6, 7]:
            self.came(taker, number, "out", 3)
            self.assertEqual(told(taker), (3, ["t0", "t1", "t2"], [(5, "in")]))

    def test_a_room_of_one(self):
        taker = Taker(1, 4)
        for number in [1, 2, 3]:
            self.came(taker, number, "x", 0)
            self.assertEqual(told(taker), (0, [], []))
        self.came(taker, 0, "a", 1)
        self.assertEqual(told(taker), (1, ["a"], []))

    def test_round_the_ring(self):
        taker = after(3, 5, 4)
        self.came(taker, 1, "b", 4)
        self.came(taker, 0, "a", 4)
        self.assertEqual(taker.kept(), [(5, "a"), (6, "b")])
        self.came(taker, 4, "c", 2)
        self.assertEqual(taker.gone()[4:], ["c", "a", "b"])
        self.assertEqual(taker.want(), 7)

    def test_where_a_text_is_kept_already(self):
        taker = Taker(3, 6)
        taker.came(2, "first")
        for text in ["second", "", "first"]:
            self.came(taker, 2, text, 0)
            self.assertEqual(taker.kept(), [(2, "first")])
        taker.came(1, "b")
        self.came(taker, 0, "a", 3)
        self.assertEqual(taker.gone(), ["a", "b", "first"])

    def test_an_empty_text_is_a_text(self):
        taker = Taker(3, 6)
        taker.came(1, "")
        self.assertEqual(taker.kept(), [(1, "")])
        self.came(taker, 1, "x", 0)
        self.came(taker, 0, "", 2)
        self.assertEqual(told(taker), (2, ["", ""], []))

    def test_an_old_one_in_a_ring_too_small(self):
        taker = after(2, 3, 2)
        self.came(taker, 0, "old", 2)
        self.assertEqual(taker.kept(), [(3, "old")])

    def test_a_ring_no_greater_than_the_room(self):
        taker = Taker(5, 2)
        self.came(taker, 1, "b", 0)
        self.came(taker, 1, "c", 0)
        self.assertEqual(taker.kept(), [(1, "b")])
        self.came(taker, 0, "a", 0)
        self.assertEqual(told(taker), (2, ["a", "b"], []))

    def test_a_ring_of_one(self):
        taker = Taker(1, 1)
        self.came(taker, 0, "a", 0)
        self.came(taker, 0, "a", 0)
        self.assertEqual(told(taker), (2, ["a", "a"], []))

    def test_all_ways_with_small_rings(self):
        for ring in range(1, 6):
            for room in range(1, 4):
                for numbers in product(range(ring), repeat=5):
                    self.as_the_model(room, ring, numbers)

    def test_long_ways(self):
        for room, ring, stride in [(3, 7, 3), (4, 9, 2), (20, 60, 7), (6, 6, 5), (5, 11, 4)]:
            self.as_the_model(room, ring, [k * stride // 2 % ring for k in range(400)])

    def as_the_model(self, room, ring, numbers):
        taker = Taker(room, ring)
        model = Model(room, ring)
        for k, number in enumerate(numbers):
            self.assertEqual(taker.came(number, f"t{k}"), model.came(number, f"t{k}"))
            self.assertEqual(told(taker), model.told())

    def test_what_was_told_stays(self):
        taker = Taker(3, 6)
        taker.came(0, "a")
        taker.came(2, "c")
        gone, kept = taker.gone(), taker.kept()
        taker.came(1, "b")
        self.assertEqual(gone, ["a"])
        self.assertEqual(kept, [(2, "c")])

    def test_what_was_told_and_changed_changes_nothing(self):
        taker = Taker(3, 6)
        taker.came(0, "a")
        taker.came(2, "c")
        taker.gone().append("x")
        taker.gone().clear()
        taker.kept().append((1, "x"))
        taker.kept().clear()
        self.assertEqual(told(taker), (1, ["a"], [(2, "c")]))
        self.came(taker, 1, "b", 3)
        self.assertEqual(told(taker), (3, ["a", "b", "c"], []))

    def test_an_empty_list_that_was_told_is_the_askers_own(self):
        taker = Taker(3, 6)
        taker.gone().append("x")
        taker.kept().append((0, "x"))
        self.assertEqual(told(taker), (0, [], []))
        self.came(taker, 0, "a", 1)
        self.assertEqual(taker.gone(), ["a"])

    def test_two_takers_do_not_touch(self):
        one, other = Taker(3, 6), Taker(3, 6)
        one.came(0, "a")
        one.came(2, "c")
        self.assertEqual(told(other), (0, [], []))


if __name__ == "__main__":
    unittest.main()
