"""Promise 11: from wherever a run stands, some steps bring it to its end."""

import unittest

from ringpost.finishing import finishing
from ringpost.runs import Run
from tests.things import GREAT, Model, Walk, are_steps, done, rings_of, stand, texts_of

SMALL = [(1, 1, 0, 0), (1, 1, 1, 1), (1, 1, 0, 2), (2, 1, 1, 0), (2, 2, 0, 0), (2, 2, 1, 0), (2, 2, 0, 2), (3, 3, 0, 1)]


class TestFinishing(unittest.TestCase):
    def finishes(self, run, texts):
        before = stand(run)
        steps = finishing(run)
        self.assertEqual(stand(run), before)
        self.assertTrue(are_steps(steps))
        at_end = run.out() == texts and run.counts()[0] == len(texts)
        self.assertEqual(steps == [], at_end)
        course = run.copied()
        for step in steps:
            course.do(step)
            self.assertIs(course.wrong(), False)
        self.assertEqual(course.out(), texts)
        self.assertEqual(course.counts(), (len(texts),) * 3)
        self.assertEqual(finishing(course), [])
        return steps

    def test_from_the_start(self):
        for bounds in SMALL + GREAT:
            for ring in rings_of(bounds):
                for many in [1, 2, 70, 400][:3 if bounds in SMALL else 4]:
                    self.finishes(Run(bounds, ring, texts_of(many)), texts_of(many))

    def test_without_texts(self):
        for bounds in SMALL + GREAT:
            run = Run(bounds, rings_of(bounds)[0], [])
            self.assertEqual(self.finishes(run, []), [])

    def test_texts_that_are_alike(self):
        for texts in [["", "", ""], ["a"] * 9, ["a", "b"] * 30]:
            self.finishes(Run((3, 2, 1, 1), 6, texts), texts)

    def test_from_all_places_with_small_bounds(self):
        for bounds in SMALL:
            ring = rings_of(bounds)[0]
            texts = texts_of(ring + 1)
            ways = [(Run(bounds, ring, texts), Model(bounds, None, texts))]
            seen = {ways[0][1].key()}
            while ways:
                run, model = ways.pop()
                self.finishes(run, texts)
                for step in model.steps():
                    other, way = run.copied(), model.copied()
                    other.do(step)
                    way.do(step)
                    if way.key() not in seen:
                        seen.add(way.key())
                        ways.append((other, way))

    def test_from_places_of_long_walks(self):
        for bounds in GREAT:
            for seed in range(6):
                texts = texts_of([60, 8, 1][seed % 3])
                run, model = Run(bounds, rings_of(bounds)[seed % 5], texts), Model(bounds, None, texts)
                self.along(run, model, Walk(seed), texts)

    def along(self, run, model, walk, texts):
        for at in range(200):
            step = walk.step(model)
            if step is not None:
                run.do(step)
                model.do(step)
            if at % 8 == 0:
                self.finishes(run, texts)

    def test_all_sent_and_nothing_come(self):
        steps = [("send", k) for k in range(4)]
        self.finishes(done((4, 2, 0, 0), 6, texts_of(4), steps), texts_of(4))

    def test_all_come_and_nothing_heard(self):
        steps = [step for k in range(4) for step in (("send", k), ("hand", k))]
        told = self.finishes(done((4, 1, 0, 0), 5, texts_of(4), steps), texts_of(4))
        self.assertEqual(told, [("tell", 3)])
        self.finishes(done((4, 1, 0, 0), 5, texts_of(9), steps), texts_of(9))

    def test_all_but_the_first_kept(self):
        steps = [("send", k) for k in range(4)] + [("hand", k) for k in (3, 2, 1)]
        for many in [4, 5, 11]:
            self.finishes(done((4, 4, 3, 0), 11, texts_of(many), steps), texts_of(many))

    def test_an_old_answer_came_behind_a_new_one(self):
        steps = [("send", 0), ("hand", 0), ("send", 1), ("hand", 1), ("tell", 1), ("tell", 0)]
        self.finishes(done((2, 1, 0, 1), 4, texts_of(5), steps), texts_of(5))

    def test_none_where_it_is_so_already(self):
        steps = [("send", 0), ("hand", 0), ("tell", 0), ("send", 1), ("hand", 1), ("tell", 1)]
        run = done((2, 1, 1, 1), 4, texts_of(2), steps)
        self.assertEqual(self.finishes(run, texts_of(2)), [])
        run.do(("hand", 0))
        self.assertEqual(self.finishes(run, texts_of(2)), [])

    def test_asking_changes_nothing(self):
        steps = [("send", 0), ("send", 1), ("hand", 1)]
        run = done((2, 2, 1, 1), 5, texts_of(3), steps)
        other = done((2, 2, 1, 1), 5, texts_of(3), steps)
        finishing(run)
        finishing(run)
        for step in [("hand", 0), ("tell", 0), ("tell", 1), ("send", 2), ("hand", 2)]:
            self.assertEqual(run.do(step), other.do(step))
            self.assertEqual(stand(run), stand(other))

    def test_what_was_told_is_the_askers_own(self):
        run = Run((2, 2, 1, 1), 5, texts_of(3))
        told = finishing(run)
        again = list(told)
        told.clear()
        self.assertEqual(finishing(run), again)
        run.do(("send", 0))
        self.assertEqual(finishing(Run((2, 2, 1, 1), 5, texts_of(3))), again)

    def test_up_to_the_greatest_number_of_a_letter(self):
        texts = texts_of(2)
        run = done((2, 2, 1, 1), 5, texts, [("send", 0)] * 999998)
        other = run.copied()
        run.do(("send", 0))
        self.assertIn(("hand", 999999), self.finishes(run, texts))
        # No letter behind these two can be named, and each of them is needed.
        other.do(("send", 1))
        self.assertEqual(other.do(("send", 0)), 999999)
        self.finishes(other, texts)

    def test_up_to_the_greatest_number_of_an_answer(self):
        run = done((1, 1, 0, 1), 3, ["a"], [("send", 0)] + [("hand", 0)] * 1000001)
        self.assertEqual(run.answers(), [(999999, 1), (1000000, 1)])
        self.assertEqual(self.finishes(run, ["a"]), [("tell", 999999)])

    def test_with_letters_that_are_there(self):
        steps = [("send", 0), ("send", 1), ("send", 2), ("send", 3), ("hand", 2)]
        run = done((4, 4, 20, 0), 28, texts_of(4), steps)
        told = self.finishes(run, texts_of(4))
        self.assertEqual([number for word, number in told if word == "hand"], [0, 1, 3])
        self.assertNotIn("send", [word for word, _ in told])


if __name__ == "__main__":
    unittest.main()
