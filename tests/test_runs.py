"""Promises 7 and 8: runs, their steps, what is refused, and what is wrong."""

import unittest

from ringpost.errors import BadBounds, BadRing, BadStep, BadTexts, NoLetter, NotNow
from ringpost.runs import Run
from tests.things import Model, done, no_steps, no_whole_numbers, ring_list, stand, texts_of

AT_FIRST = ([], (0, 0, 0), [], [], False)
NO_BOUNDS = [
    (), (1, 1, 0), (1, 1, 0, 0, 0), [1, 1, 0, 0], (0, 0, 0, 0), (21, 1, 0, 0), (1, 2, 0, 0), (1, 0, 0, 0),
    (1, 1, -1, 0), (1, 1, 0, 21), (True, 1, 0, 0), (1, 1, False, 0), (1, 1, 0, 0.0), ("1", 1, 0, 0),
]
NO_RINGS = [0, -1, 201, 10 ** 5000]
NO_TEXTS = [("a",), "a", [1], ["a", None], ["a" * 41], [""] * 401, ["a", ["b"]], {"a": 1}]


def busy():
    """A run with a kept text, and letters and answers of which some are there no more."""
    return done((4, 3, 1, 1), 8, texts_of(20), [
        ("send", 0), ("hand", 0), ("send", 1), ("hand", 1), ("tell", 1), ("send", 2), ("send", 3), ("hand", 3),
    ])


def kinds(told):
    """The kinds of all that lists and tuples hold."""
    if isinstance(told, (list, tuple)):
        return type(told), [kinds(part) for part in told]
    return type(told)


class TestWhatIsTold(unittest.TestCase):
    def does(self, run, step, told):
        got = run.do(step)
        self.assertEqual(got, told)
        self.assertIs(type(got), int)

    def test_at_first(self):
        for bounds, ring in [((1, 1, 0, 0), 1), ((1, 1, 0, 0), 2), ((20, 20, 20, 20), 60), ((3, 2, 1, 0), 200)]:
            for texts in [[], [""], ["a", "b"], texts_of(400), [" ~" * 20]]:
                run = Run(bounds, ring, texts)
                self.assertEqual(stand(run), AT_FIRST)
                self.assertEqual(kinds(stand(run)), kinds(AT_FIRST))

    def test_the_numbers_of_each_step(self):
        run = Run((3, 2, 2, 2), 7, texts_of(5))
        self.does(run, ("send", 0), 0)
        self.does(run, ("send", 1), 1)
        self.does(run, ("send", 0), 2)
        self.does(run, ("hand", 1), 0)
        self.does(run, ("hand", 1), 1)
        self.does(run, ("hand", 0), 2)
        self.does(run, ("tell", 1), 0)
        self.does(run, ("tell", 2), 2)
        self.does(run, ("tell", 0), 2)
        self.does(run, ("send", 2), 3)
        self.does(run, ("hand", 3), 3)
        self.does(run, ("tell", 3), 3)
        self.assertEqual(run.out(), ["t0", "t1", "t2"])
        self.assertEqual(run.counts(), (3, 3, 3))

    def test_all_that_is_told(self):
        run = busy()
        self.assertEqual(run.out(), ["t0", "t1"])
        self.assertEqual(run.counts(), (2, 4, 2))
        self.assertEqual(run.letters(), [(2, 2, "t2"), (3, 3, "t3")])
        self.assertEqual(run.answers(), [(1, 2), (2, 2)])
        self.assertEqual(kinds(run.letters()), (list, [(tuple, [int, int, str])] * 2))
        self.assertEqual(kinds(run.answers()), (list, [(tuple, [int, int])] * 2))
        self.assertEqual(kinds(run.counts()), (tuple, [int, int, int]))
        self.does(run, ("hand", 2), 3)
        self.assertEqual(run.out(), ["t0", "t1", "t2", "t3"])
        self.assertEqual(run.answers(), [(2, 2), (3, 4)])

    def test_round_the_ring(self):
        run = Run((1, 1, 0, 0), 2, texts_of(5))
        for k in range(5):
            self.does(run, ("send", k), k)
            self.assertEqual(run.letters(), [(k, k % 2, f"t{k}")])
            self.does(run, ("hand", k), k)
            self.assertEqual(run.answers(), [(k, (k + 1) % 2)])
            self.does(run, ("tell", k), k + 1)
        self.assertEqual(stand(run), (texts_of(5), (5, 5, 5), [(4, 0, "t4")], [(4, 1)], False))

    def test_letters_keep_to_delay_and_answers_to_back(self):
        run = done((1, 1, 3, 1), 6, texts_of(20), [("send", 0)] * 6 + [("hand", 3)] * 6)
        self.assertEqual([number for number, _, _ in run.letters()], [2, 3, 4, 5])
        self.assertEqual([number for number, _ in run.answers()], [4, 5])
        run = done((1, 1, 1, 3), 6, texts_of(20), [("send", 0)] * 6 + [("hand", 5)] * 6)
        self.assertEqual([number for number, _, _ in run.letters()], [4, 5])
        self.assertEqual([number for number, _ in run.answers()], [2, 3, 4, 5])

    def test_window_and_room(self):
        run = done((3, 2, 2, 0), 7, texts_of(20), [("send", 0), ("send", 1), ("send", 2)])
        self.assertRaises(NotNow, run.do, ("send", 3))
        run.do(("hand", 2))
        run.do(("hand", 1))
        run.do(("hand", 0))
        self.assertEqual(run.out(), ["t0", "t1"])

    def test_the_greatest_numbers(self):
        run = Run((1, 1, 0, 0), 2, ["a"])
        for _ in range(300):
            run.do(("send", 0))
        self.does(run, ("hand", 299), 0)
        for word, error in [("send", NotNow), ("hand", NoLetter), ("tell", NoLetter)]:
            self.assertRaises(error, run.do, (word, 999999))

    def test_as_a_model_in_all_ways(self):
        for bounds, ring, many in [
                ((1, 1, 0, 0), 1, 3), ((1, 1, 0, 0), 2, 3), ((1, 1, 1, 0), 2, 3), ((1, 1, 0, 1), 2, 3),
                ((2, 1, 0, 1), 3, 3), ((2, 2, 0, 0), 3, 4), ((2, 2, 1, 0), 1, 3), ((3, 2, 0, 1), 2, 3)]:
            self.in_all_ways(bounds, ring, texts_of(many))

    def in_all_ways(self, bounds, ring, texts):
        ways = [(Run(bounds, ring, texts), Model(bounds, ring, texts))]
        seen = set()
        while ways and len(seen) < 1500:
            run, model = ways.pop(0)
            for step in model.steps():
                other, way = run.copied(), model.copied()
                self.assertEqual(other.do(step), way.do(step))
                self.assertEqual(stand(other), way.stand())
                if way.key() not in seen and len(way.out()) <= len(texts) + 2:
                    seen.add(way.key())
                    ways.append((other, way))


class TestRefusals(unittest.TestCase):
    def refused(self, error, *told):
        with self.assertRaises(error) as caught:
            Run(*told)
        self.assertIs(caught.exception.__class__, error)

    def test_bounds(self):
        for bounds in NO_BOUNDS + no_whole_numbers():
            self.refused(BadBounds, bounds, 2, ["a"])

    def test_rings(self):
        for ring in NO_RINGS + no_whole_numbers():
            self.refused(BadRing, (1, 1, 0, 0), ring, ["a"])
        for ring in [1, 2, 200]:
            Run((20, 20, 20, 20), ring, ["a"])

    def test_texts(self):
        self.refused(BadTexts, (1, 1, 0, 0), 2, ring_list())
        for texts in NO_TEXTS:
            self.refused(BadTexts, (1, 1, 0, 0), 2, texts)
        for thing in no_whole_numbers():
            if not isinstance(thing, str):
                self.refused(BadTexts, (1, 1, 0, 0), 2, ["a", thing])
            if not isinstance(thing, list):
                self.refused(BadTexts, (1, 1, 0, 0), 2, thing)

    def test_bounds_ahead_of_ring_ahead_of_texts(self):
        for bounds in [None, (1, 2, 0, 0)]:
            for ring in [0, True, 2]:
                for texts in [None, [1], ["a"]]:
                    self.refused(BadBounds, bounds, ring, texts)
        for ring in [0, 201, True, None]:
            for texts in [None, [1], [""] * 401, ["a"]]:
                self.refused(BadRing, (1, 1, 0, 0), ring, texts)

    def test_what_is_no_step(self):
        for run in [busy(), Run((2, 2, 1, 1), 5, ["a"])]:
            before = stand(run)
            for which, thing in enumerate(no_steps()):
                with self.subTest(which):
                    self.not_done(run, BadStep, thing)
            self.assertEqual(stand(run), before)

    def not_done(self, run, error, step):
        with self.assertRaises(error) as caught:
            run.do(step)
        self.assertIs(caught.exception.__class__, error)

    def test_each_number_of_each_word(self):
        run = busy()
        before = stand(run)
        for word, fit, error in [("send", [2, 3, 4], NotNow), ("hand", [2, 3], NoLetter), ("tell", [1, 2], NoLetter)]:
            for number in [*range(12), 20, 100, 999999]:
                if number in fit:
                    run.copied().do((word, number))
                else:
                    self.not_done(run, error, (word, number))
                    self.assertEqual(stand(run), before)

    def test_with_no_texts(self):
        run = Run((2, 2, 1, 1), 5, [])
        self.not_done(run, NotNow, ("send", 0))
        self.not_done(run, NoLetter, ("hand", 0))
        self.not_done(run, NoLetter, ("tell", 0))
        self.assertEqual(stand(run), AT_FIRST)

    def test_behind_the_last_text(self):
        run = done((3, 1, 0, 0), 4, ["a", "b"], [("send", 0), ("send", 1)])
        self.not_done(run, NotNow, ("send", 2))
        self.assertEqual(stand(run), ([], (0, 2, 0), [(1, 1, "b")], [], False))

    def test_what_is_refused_changes_nothing(self):
        steps = [("send", 0), ("send", 1), ("hand", 1), ("hand", 0), ("tell", 0), ("tell", 1), ("send", 2)]
        run, other = Run((3, 2, 1, 1), 6, texts_of(4)), Run((3, 2, 1, 1), 6, texts_of(4))
        for step in steps:
            for word, error in [("send", NotNow), ("hand", NoLetter), ("tell", NoLetter)]:
                self.not_done(run, error, (word, 7))
                self.not_done(run, BadStep, (word, -1))
            self.assertEqual(run.do(step), other.do(step))
            self.assertEqual(stand(run), stand(other))


class TestOnesOwn(unittest.TestCase):
    def test_the_texts_may_be_changed_behind_the_call(self):
        texts = ["a", "b"]
        run = Run((2, 2, 1, 1), 5, texts)
        texts[0] = "x"
        texts.append("c")
        self.assertRaises(NotNow, done((2, 2, 1, 1), 5, ["a", "b"], [("send", 0), ("send", 1)]).do, ("send", 2))
        run.do(("send", 0))
        texts[1] = 5
        run.do(("send", 1))
        texts.clear()
        self.assertEqual(run.letters(), [(0, 0, "a"), (1, 1, "b")])
        run.do(("hand", 0))
        run.do(("hand", 1))
        self.assertEqual(run.out(), ["a", "b"])
        self.assertIs(run.wrong(), False)
        self.assertRaises(NotNow, run.do, ("send", 2))

    def test_more_texts_behind_the_call_are_none(self):
        texts = ["a"]
        run = Run((3, 1, 0, 0), 4, texts)
        texts.append("b")
        run.do(("send", 0))
        self.assertRaises(NotNow, run.do, ("send", 1))

    def test_nothing_that_is_handed_in_is_changed(self):
        texts = texts_of(3)
        run = Run((3, 1, 0, 0), 4, texts)
        for step in [("send", 0), ("hand", 0), ("tell", 0), ("send", 1), ("hand", 1)]:
            run.do(step)
        run.wrong()
        self.assertEqual(texts, texts_of(3))

    def test_what_was_told_stays(self):
        run = busy()
        told = stand(run)
        other = stand(run)
        for step in [("hand", 2), ("tell", 3), ("send", 4), ("hand", 4), ("send", 5)]:
            run.do(step)
        self.assertEqual(told, other)

    def test_what_was_told_may_be_changed(self):
        for run in [busy(), Run((1, 1, 0, 0), 2, ["a"])]:
            before = stand(run)
            for told in [run.out, run.letters, run.answers]:
                told().append((9, 9, "x"))
                told().insert(0, "x")
                told().clear()
            self.assertEqual(stand(run), before)
        run.do(("send", 0))
        self.assertEqual(run.letters(), [(0, 0, "a")])

    def test_two_runs_do_not_touch(self):
        texts = texts_of(3)
        one, other = Run((2, 2, 1, 1), 5, texts), Run((2, 2, 1, 1), 5, texts)
        for step in [("send", 0), ("send", 1), ("hand", 1), ("tell", 0)]:
            one.do(step)
        self.assertEqual(stand(other), AT_FIRST)


class TestCopied(unittest.TestCase):
    later = [("hand", 2), ("tell", 3), ("send", 4), ("hand", 4), ("tell", 3), ("send", 5), ("hand", 5), ("tell", 5)]

    def test_it_stands_likewise(self):
        run = busy()
        copy = run.copied()
        self.assertIs(type(copy), Run)
        self.assertIsNot(copy, run)
        self.assertEqual(stand(copy), stand(run))
        for step in self.later:
            self.assertEqual(copy.do(step), run.do(step))
            self.assertEqual(stand(copy), stand(run))

    def test_each_goes_its_own_way(self):
        self.goes_alone(lambda run: (run, run.copied()))
        self.goes_alone(lambda run: (run.copied(), run))
        self.goes_alone(lambda run: (run.copied(), run.copied()))
        self.goes_alone(lambda run: (run, run.copied().copied()))

    def goes_alone(self, pair):
        for many in range(len(self.later)):
            run = busy()
            for step in self.later[:many]:
                run.do(step)
            gone, stays = pair(run)
            before = stand(stays)
            for step in self.later[many:]:
                gone.do(step)
                self.assertEqual(stand(stays), before)
            for step in self.later[many:]:
                stays.do(step)
            self.assertEqual(stand(stays), stand(gone))

    def test_a_kept_text_is_not_shared(self):
        run = done((3, 3, 3, 0), 9, texts_of(20), [("send", 0), ("send", 1), ("send", 2), ("hand", 1)])
        copy = run.copied()
        copy.do(("hand", 2))
        run.do(("hand", 0))
        self.assertEqual(run.out(), ["t0", "t1"])
        copy.do(("hand", 0))
        self.assertEqual(copy.out(), ["t0", "t1", "t2"])
        self.assertEqual(run.out(), ["t0", "t1"])

    def test_it_refuses_likewise(self):
        copy = busy().copied()
        for step, error in [(("send", 6), NotNow), (("hand", 1), NoLetter), (("tell", 0), NoLetter), ((), BadStep)]:
            self.assertRaises(error, copy.do, step)

    def test_a_copy_of_one_that_is_wrong(self):
        run = done((1, 1, 0, 0), 1, texts_of(20), [("send", 0), ("hand", 0), ("hand", 0)])
        self.assertIs(run.copied().wrong(), True)
        self.assertEqual(stand(run.copied()), stand(run))


class TestWrong(unittest.TestCase):
    def is_wrong(self, run, wrong):
        self.assertIs(run.wrong(), wrong)

    def test_never_with_a_great_ring(self):
        run = Run((2, 2, 1, 1), 5, texts_of(3))
        for step in [("send", 0), ("send", 1), ("hand", 1), ("hand", 0), ("tell", 1), ("hand", 0), ("tell", 1),
                     ("send", 2), ("hand", 2), ("tell", 3), ("tell", 2)]:
            run.do(step)
            self.is_wrong(run, False)
        self.assertEqual((run.out(), run.counts()), (texts_of(3), (3, 3, 3)))

    def test_a_text_that_came_out_twice(self):
        for texts, wrong in [(["a", "b"], True), (["a", "a"], False), (["a"], True), (["a", "aa"], True)]:
            run = done((1, 1, 0, 0), 1, texts, [("send", 0), ("hand", 0)])
            self.is_wrong(run, False)
            run.do(("hand", 0))
            self.assertEqual(run.out(), ["a", "a"])
            self.is_wrong(run, wrong)

    def test_more_came_out_than_there_are(self):
        run = done((1, 1, 0, 0), 1, [""], [("send", 0), ("hand", 0), ("hand", 0)])
        self.assertEqual(run.out(), ["", ""])
        self.is_wrong(run, True)

    def test_one_in_the_middle(self):
        run = done((2, 1, 1, 0), 3, texts_of(20), [
            ("send", 0), ("hand", 0), ("send", 1), ("hand", 1), ("send", 0), ("tell", 1), ("send", 2), ("hand", 3),
        ])
        self.assertEqual((run.out(), run.counts()), (["t0", "t1", "t2"], (2, 3, 3)))
        run.do(("hand", 2))
        self.assertEqual(run.out(), ["t0", "t1", "t2", "t0"])
        self.is_wrong(run, True)
        run.do(("tell", 3))
        self.assertEqual(run.counts(), (2, 3, 4))
        self.is_wrong(run, True)

    def test_a_text_that_is_kept_is_not_wrong_yet(self):
        run = done((2, 2, 0, 0), 3, texts_of(20), [
            ("send", 0), ("hand", 0), ("send", 1), ("hand", 1), ("send", 0), ("hand", 2),
        ])
        self.assertEqual(run.counts(), (0, 2, 2))
        self.is_wrong(run, False)
        for step in [("tell", 2), ("send", 2), ("hand", 3)]:
            self.is_wrong(run, False)
            run.do(step)
        self.assertEqual(run.out(), ["t0", "t1", "t2", "t0"])
        self.is_wrong(run, True)

    def test_a_base_that_is_too_great(self):
        for texts in [texts_of(3), ["", "", ""]]:
            run = Run((1, 1, 0, 1), 2, texts)
            for step in [("send", 0), ("hand", 0), ("tell", 0), ("send", 1), ("hand", 1), ("tell", 1), ("send", 2)]:
                run.do(step)
                self.is_wrong(run, False)
            self.assertEqual(run.do(("tell", 0)), 3)
            self.assertEqual((run.out(), run.counts()), (texts[:2], (3, 3, 2)))
            self.is_wrong(run, True)
            run.do(("hand", 2))
            self.assertEqual((run.out(), run.counts()), (texts, (3, 3, 3)))
            self.is_wrong(run, False)

    def test_a_base_as_great_as_what_came_out(self):
        run = done((1, 1, 0, 0), 2, texts_of(20), [("send", 0), ("hand", 0), ("tell", 0)])
        self.assertEqual(run.counts(), (1, 1, 1))
        self.is_wrong(run, False)


if __name__ == "__main__":
    unittest.main()
