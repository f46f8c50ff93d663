"""Promise 9: with the least ring, or a greater one, nothing is wrong at any time."""

import unittest

from ringpost.bounds import least_ring
from ringpost.breaking import breaking
from ringpost.errors import NoLetter, NotNow
from ringpost.runs import Run
from tests.things import GREAT, Model, Walk, rings_of, texts_of

SMALL = [(window, room, delay, back) for window in range(1, 3) for room in range(1, window + 1)
         for delay in range(3) for back in range(3)]
WIDER = [(3, 1, 1, 1), (3, 2, 1, 1), (3, 3, 1, 0), (3, 3, 0, 2), (3, 2, 2, 0), (1, 1, 4, 0), (1, 1, 0, 4), (2, 2, 0, 3)]


def alike(run):
    """All that a run tells that doesn't hang on the ring."""
    letters = [(number, text) for number, _, text in run.letters()]
    return run.out(), run.counts(), letters, [number for number, _ in run.answers()], run.wrong()


def alike_of_model(model):
    out, counts, letters, answers, wrong = model.stand()
    return out, counts, [(number, text) for number, _, text in letters], [number for number, _ in answers], wrong


class TestLeast(unittest.TestCase):
    def test_all_that_may_come_with_small_bounds(self):
        for bounds in SMALL + WIDER:
            with self.subTest(bounds):
                self.all_that_may_come(bounds)

    def all_that_may_come(self, bounds):
        least = rings_of(bounds)[0]
        texts = texts_of(least + 1)
        runs = [Run(bounds, ring, texts) for ring in (least, least + 1)]
        ways = [(runs, Model(bounds, None, texts))]
        seen = {ways[0][1].key()}
        while ways:
            runs, model = ways.pop()
            for step in model.steps():
                others, way = [run.copied() for run in runs], model.copied()
                told = way.do(step)
                self.assertEqual([other.do(step) for other in others], [told] * len(runs))
                self.go_alike(others, way)
                if way.key() not in seen:
                    seen.add(way.key())
                    ways.append((others, way))
        self.assertIn(least + 1, {key[0] for key in seen})

    def go_alike(self, runs, model):
        told = alike_of_model(model)
        self.assertIs(told[-1], False)
        for run in runs:
            self.assertEqual(alike(run), told)

    def test_what_is_refused_is_alike(self):
        for bounds in SMALL:
            texts = texts_of(3)
            walk, model = Walk(sum(bounds)), Model(bounds, None, texts)
            runs = [Run(bounds, ring, texts) for ring in rings_of(bounds)]
            for _ in range(60):
                fit = model.steps()
                for word, error in [("send", NotNow), ("hand", NoLetter), ("tell", NoLetter)]:
                    for number in range(8):
                        if (word, number) not in fit:
                            for run in runs:
                                self.assertRaises(error, run.do, (word, number))
                self.go(runs, model, walk)

    def go(self, runs, model, walk):
        step = walk.step(model)
        if step is not None:
            told = model.do(step)
            self.assertEqual([run.do(step) for run in runs], [told] * len(runs))
        self.go_alike(runs, model)

    def test_long_walks(self):
        for bounds in GREAT:
            for seed in range(10):
                texts = texts_of([400, 70, 5][seed % 3])
                runs = [Run(bounds, ring, texts) for ring in rings_of(bounds)[:3]]
                model, walk = Model(bounds, None, texts), Walk(seed)
                for _ in range(250):
                    self.go(runs, model, walk)

    def test_kept_back_as_long_as_the_bounds_let_them(self):
        for bounds in SMALL + WIDER + GREAT:
            self.oldest_again_and_again(bounds)

    def oldest_again_and_again(self, bounds):
        texts = texts_of(90)
        rings = rings_of(bounds)[:2]
        runs, model = [Run(bounds, ring, texts) for ring in rings], Model(bounds, None, texts)
        while model.base < len(texts):
            for k in model.may_be_sent():
                steps = [("send", k), ("hand", len(model.posted))]
                steps += [("hand", max(0, len(model.posted) - bounds[2]))] * 2
                for step in steps:
                    told = model.do(step)
                    self.assertEqual([run.do(step) for run in runs], [told] * len(runs))
            for i in model.answers_there() + model.answers_there():
                for run in runs:
                    run.do(("tell", i))
                model.do(("tell", i))
            self.go_alike(runs, model)
        self.assertEqual(model.out(), texts)

    def test_what_breaks_a_lesser_ring_breaks_none_of_these(self):
        for bounds in SMALL + WIDER + GREAT:
            for ring in range(1, least_ring(bounds)):
                steps = breaking(bounds, ring)
                texts = texts_of(ring + 1)
                runs = [Run(bounds, greater, texts) for greater in rings_of(bounds)[:2]]
                for step in steps:
                    self.do_or_not(runs, step)

    def do_or_not(self, runs, step):
        told = []
        for run in runs:
            try:
                told.append(run.do(step))
            except (NotNow, NoLetter) as refusal:
                told.append(refusal.__class__)
            self.assertIs(run.wrong(), False)
        self.assertEqual(told[0], told[1])

    def test_with_one_less_something_is_wrong(self):
        for bounds in SMALL + WIDER:
            with self.subTest(bounds):
                self.assertTrue(self.may_go_wrong(bounds, least_ring(bounds) - 1))
                self.assertFalse(self.may_go_wrong(bounds, least_ring(bounds)))

    def may_go_wrong(self, bounds, ring):
        """Whether something may be wrong in a run of ring and one texts."""
        ways = [Model(bounds, ring, texts_of(ring + 1))]
        seen = {ways[0].key()}
        while ways:
            model = ways.pop()
            for step in model.steps():
                way = model.copied()
                way.do(step)
                if way.wrong():
                    return True
                if way.key() not in seen:
                    seen.add(way.key())
                    ways.append(way)
        return False


if __name__ == "__main__":
    unittest.main()
