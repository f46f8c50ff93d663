"""Promise 10: for each lesser ring a run in which something is wrong at the end."""

import unittest

from ringpost.bounds import least_ring
from ringpost.breaking import breaking
from ringpost.errors import BadBounds, BadRing, Safe
from ringpost.runs import Run
from tests.things import Model, are_steps, no_whole_numbers, texts_of

ALL_SMALL = [(window, room, delay, back) for window in range(1, 5) for room in range(1, window + 1)
             for delay in range(4) for back in range(5)]
GREAT = [(20, 20, 20, 20), (20, 20, 0, 0), (20, 20, 0, 20), (20, 20, 20, 0), (20, 1, 20, 0), (20, 1, 0, 20),
         (1, 1, 20, 20), (1, 1, 20, 0), (1, 1, 0, 20), (20, 7, 3, 11), (13, 13, 6, 5), (9, 1, 19, 20), (20, 19, 1, 2)]


class TestBreaking(unittest.TestCase):
    def test_each_lesser_ring(self):
        for bounds in ALL_SMALL + GREAT:
            window, room, delay, back = bounds
            for ring in range(1, window + room + max(delay, back)):
                with self.subTest(bounds=bounds, ring=ring):
                    self.breaks(bounds, ring)

    def breaks(self, bounds, ring):
        steps = breaking(bounds, ring)
        self.assertTrue(are_steps(steps))
        texts = texts_of(ring + 1)
        run, model = Run(bounds, ring, texts), Model(bounds, ring, texts)
        for step in steps:
            self.assertIn(step, model.steps())
            self.assertEqual(run.do(step), model.do(step))
        self.assertIs(run.wrong(), True)
        self.assertTrue(model.wrong())

    def test_whatever_the_texts_are(self):
        for bounds, ring in [((3, 2, 1, 4), 4), ((3, 2, 1, 4), 7), ((1, 1, 0, 0), 1), ((20, 20, 0, 20), 59)]:
            for texts in [[""] + texts_of(ring), [" " * k for k in range(ring + 1)][:40], texts_of(ring + 1)[::-1]]:
                if len(texts) == ring + 1:
                    run = Run(bounds, ring, texts)
                    for step in breaking(bounds, ring):
                        run.do(step)
                    self.assertIs(run.wrong(), True)

    def test_safe_for_a_ring_that_is_no_less(self):
        for bounds in ALL_SMALL + GREAT:
            least = least_ring(bounds)
            for ring in [least, least + 1, 2 * least, 200]:
                self.refused(Safe, bounds, ring)

    def test_bounds_ahead_of_ring_ahead_of_safe(self):
        for bounds in [(), (1, 2, 0, 0), (1, 1, 0), [1, 1, 0, 0], (1, 1, 0, 21), (0, 0, 0, 0), None]:
            for ring in [0, 1, 2, 200, 201, True, None]:
                self.refused(BadBounds, bounds, ring)
        for bounds in [(1, 1, 0, 0), (20, 20, 20, 20)]:
            for ring in [0, -1, 201, 10 ** 5000]:
                self.refused(BadRing, bounds, ring)

    def test_kinds(self):
        for thing in no_whole_numbers():
            self.refused(BadBounds, thing, 1)
            self.refused(BadBounds, (thing, 1, 0, 0), 1)
            self.refused(BadBounds, (1, 1, 0, thing), 200)
            self.refused(BadRing, (1, 1, 0, 0), thing)

    def refused(self, error, bounds, ring):
        with self.assertRaises(error) as caught:
            breaking(bounds, ring)
        self.assertIs(caught.exception.__class__, error)

    def test_what_was_told_is_the_askers_own(self):
        for ring in [3, 7]:
            told = breaking((3, 2, 1, 4), ring)
            again = list(told)
            told.clear()
            self.assertEqual(breaking((3, 2, 1, 4), ring), again)


if __name__ == "__main__":
    unittest.main()
