"""Promises 3 and 5: the sender."""

import unittest

from ringpost.errors import NotNow
from ringpost.sides import Sender
from tests.things import no_whole_numbers


def stands_at(window, ring, many, base, top):
    """A sender with this base and top."""
    sender = Sender(window, ring, many)
    while sender.span() != (base, top):
        if sender.span()[1] < top and sender.span()[1] < sender.span()[0] + window:
            sender.sent(sender.span()[1])
        else:
            sender.heard(sender.span()[0] + 1)
    return sender


def spans(window, many):
    """All spans that a sender of so many texts comes to, if its ring is no less than 2."""
    return [(base, top) for base in range(many + 1)
            for top in range(base, min(base + window, many) + 1)]


def small_ones():
    """Windows, rings and numbers of texts, all small."""
    return [(window, ring, many) for window in range(1, 5)
            for ring in range(2, 8) for many in range(7)]


class SenderCase(unittest.TestCase):
    def refused(self, sender, k):
        before = sender.span()
        with self.assertRaises(NotNow) as caught:
            sender.sent(k)
        self.assertIs(caught.exception.__class__, NotNow)
        self.assertEqual(sender.span(), before)

    def heard(self, sender, number, span):
        self.assertIsNone(sender.heard(number))
        self.assertEqual(sender.span(), span)


class TestSpan(SenderCase):
    def test_both_are_0_at_first(self):
        self.assertEqual(Sender(1, 2, 0).span(), (0, 0))
        self.assertEqual(Sender(20, 200, 400).span(), (0, 0))

    def test_kinds(self):
        sender = Sender(3, 5, 9)
        sender.sent(0)
        self.assertIs(type(sender.span()), tuple)
        self.assertEqual([type(part) for part in sender.span()], [int, int])
        self.assertIs(type(sender.sent(1)), int)

    def test_a_span_that_was_told_stays(self):
        sender = Sender(3, 5, 9)
        before = sender.span()
        sender.sent(0)
        sender.heard(1)
        self.assertEqual(before, (0, 0))
        self.assertEqual(sender.span(), (1, 1))


class TestSent(SenderCase):
    def test_up_to_the_window(self):
        sender = Sender(3, 5, 9)
        self.assertEqual([sender.sent(k) for k in range(3)], [0, 1, 2])
        self.assertEqual(sender.span(), (0, 3))
        self.refused(sender, 3)
        self.refused(sender, 4)

    def test_only_the_top_raises_the_top(self):
        sender = Sender(3, 5, 9)
        sender.sent(0)
        self.assertEqual(sender.span(), (0, 1))
        self.assertEqual(sender.sent(0), 0)
        self.assertEqual(sender.span(), (0, 1))
        sender.sent(1)
        self.assertEqual(sender.sent(0), 0)
        self.assertEqual(sender.sent(1), 1)
        self.assertEqual(sender.span(), (0, 2))

    def test_one_beyond_the_top(self):
        sender = Sender(5, 7, 9)
        self.refused(sender, 1)
        self.assertEqual(sender.sent(0), 0)
        self.refused(sender, 2)
        self.assertEqual(sender.sent(1), 1)

    def test_base_and_window_together(self):
        sender = stands_at(3, 5, 9, 2, 5)
        self.refused(sender, 5)
        self.heard(sender, 3, (3, 5))
        self.assertEqual(sender.sent(5), 0)
        self.assertEqual(sender.span(), (3, 6))
        self.refused(sender, 6)

    def test_the_base_and_what_is_less(self):
        sender = stands_at(3, 5, 9, 2, 4)
        self.refused(sender, 1)
        self.refused(sender, 0)
        self.refused(sender, -1)
        self.assertEqual(sender.sent(2), 2)
        self.assertEqual(sender.span(), (2, 4))

    def test_the_number_of_texts(self):
        sender = Sender(5, 7, 3)
        for k in range(3):
            sender.sent(k)
        self.refused(sender, 3)
        self.heard(sender, 3, (3, 3))
        self.refused(sender, 3)
        self.refused(sender, 2)

    def test_no_texts(self):
        sender = Sender(20, 60, 0)
        for k in [0, 1, -1]:
            self.refused(sender, k)

    def test_the_number_is_modulo_the_ring(self):
        sender = Sender(2, 3, 400)
        for k in range(400):
            self.assertEqual(sender.sent(k), k % 3)
            sender.heard((k + 1) % 3)
        self.assertEqual(sender.span(), (400, 400))
        self.refused(sender, 400)

    def test_the_greatest(self):
        sender = Sender(20, 200, 400)
        for k in range(400):
            if k >= 20:
                self.refused(sender, k)
                sender.heard((k - 19) % 200)
            self.assertEqual(sender.sent(k), k % 200)
        self.assertEqual(sender.span(), (380, 400))
        self.refused(sender, 400)

    def test_a_ring_less_than_the_window(self):
        sender = Sender(4, 2, 9)
        self.assertEqual([sender.sent(k) for k in range(4)], [0, 1, 0, 1])
        self.assertEqual(sender.span(), (0, 4))

    def test_a_ring_of_one(self):
        sender = Sender(2, 1, 9)
        self.assertEqual([sender.sent(0), sender.sent(1), sender.sent(0)], [0, 0, 0])

    def test_each_k_wherever_it_stands(self):
        for window, ring, many in small_ones():
            for base, top in spans(window, many):
                good = range(base, min(top + 1, base + window, many))
                for k in range(-2, many + 3):
                    self.one_k(stands_at(window, ring, many, base, top), k, k in good, ring)

    def one_k(self, sender, k, good, ring):
        base, top = sender.span()
        if not good:
            self.refused(sender, k)
            return
        self.assertEqual(sender.sent(k), k % ring)
        self.assertEqual(sender.span(), (base, max(top, k + 1)))

    def test_what_is_no_whole_number(self):
        for stand in [(0, 0), (0, 1), (0, 2), (1, 2), (1, 1)]:
            sender = stands_at(3, 7, 9, *stand)
            for which, thing in enumerate(no_whole_numbers()):
                with self.subTest(stand=stand, which=which):
                    self.refused(sender, thing)

    def test_numbers_that_are_far_away(self):
        sender = stands_at(3, 5, 9, 1, 2)
        for k in [10 ** 5000, -10 ** 5000, 999999, 9, 10, -2 ** 64, 2 ** 64]:
            self.refused(sender, k)

    def test_a_refusal_changes_nothing(self):
        plain = Sender(2, 4, 5)
        other = Sender(2, 4, 5)
        for k, answer in [(0, 0), (1, 1), (2, 1), (1, 2), (2, 3), (3, 3), (4, 0), (4, 1)]:
            for bad in [-1, k - 4, k + 3, True, None, "0", 10 ** 5000]:
                self.refused(other, bad)
            told = [self.what_is_told(side, k, answer) for side in (plain, other)]
            self.assertEqual(told[0], told[1])

    def what_is_told(self, sender, k, answer):
        try:
            told = sender.sent(k)
        except NotNow:
            told = None
        return told, sender.heard(answer), sender.span()


class TestHeard(SenderCase):
    def test_one_answer_for_several(self):
        self.heard(stands_at(4, 9, 9, 0, 4), 3, (3, 4))
        self.heard(stands_at(4, 9, 9, 0, 4), 4, (4, 4))

    def test_the_base_again(self):
        self.heard(stands_at(4, 9, 9, 2, 4), 2, (2, 4))

    def test_past_the_top(self):
        for number in [5, 6, 7, 8, 0, 1]:
            self.heard(stands_at(4, 9, 9, 2, 4), number, (2, 4))

    def test_before_anything_was_sent(self):
        for number in range(9):
            self.heard(Sender(4, 9, 9), number, (0, 0))

    def test_round_the_ring(self):
        self.heard(stands_at(3, 5, 9, 4, 7), 0, (5, 7))
        self.heard(stands_at(3, 5, 9, 4, 7), 2, (7, 7))
        self.heard(stands_at(3, 5, 9, 4, 7), 3, (4, 7))
        self.heard(stands_at(3, 5, 9, 4, 7), 4, (4, 7))

    def test_the_least_that_fits(self):
        self.heard(stands_at(4, 2, 9, 0, 4), 1, (1, 4))
        self.heard(stands_at(4, 2, 9, 0, 4), 0, (0, 4))
        self.heard(stands_at(4, 3, 9, 1, 5), 2, (2, 5))

    def test_a_ring_of_one(self):
        sender = Sender(2, 1, 9)
        sender.sent(0)
        self.heard(sender, 0, (0, 1))

    def test_each_answer_wherever_it_stands(self):
        for window, ring, many in small_ones():
            for base, top in spans(window, many):
                for number in range(ring):
                    fits = [b for b in range(base, top + 1) if b % ring == number]
                    sender = stands_at(window, ring, many, base, top)
                    self.heard(sender, number, (min(fits, default=base), top))

    def test_two_senders_do_not_touch(self):
        one = Sender(3, 5, 9)
        other = Sender(3, 5, 9)
        one.sent(0)
        one.heard(1)
        self.assertEqual(one.span(), (1, 1))
        self.assertEqual(other.span(), (0, 0))


if __name__ == "__main__":
    unittest.main()
