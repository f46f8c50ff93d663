"""Promise 12: steps as lines, and lines played."""

import unittest

from ringpost.errors import BadBounds, BadRing, BadStep, BadTexts, NoLetter, NoLine, NotNow
from ringpost.notes import played, read, shown
from ringpost.runs import Run
from tests.things import WORDS, OddList, OddText, no_steps, no_whole_numbers, texts_of

NUMBERS = [*range(1200), 9999, 10000, 10001, 99999, 100000, 123456, 900000, 999998, 999999]
NO_LINES = [
    "", " ", "  ", "\n", "0", "1", "send", "send ", "send1", "send0", " send 1", "send 1 ", "send  1", " 1", "1 send",
    "send\t1", "send\n1", "send\r1", "send\u00a01", "send\u30001", "send 1\n", "send 1\r\n", "send 1\t", "\nsend 1",
    "send 1\x00", "\ufeffsend 1", "send \n1", "send 1\u2028", "send 1 1", "send 1 send 1", "send 1\nsend 2",
    "send +1", "send -1", "send -0", "send +0", "send --1", "send (1)", "send \"1\"", "send a", "send x1", "send 1x",
    "send 01", "send 00", "send 000000", "send 007", "send 000001", "send 0000000", "send 0 ", "send 0.", "send 0x1",
    "send 1.0", "send 1.", "send .1", "send 1e3", "send 1_0", "send _1", "send 1_", "send 1,000", "send 0b1",
    "send 1000000", "send 1000001", "send 9999999", "send 0999999", "send 10000000000", "send " + "9" * 5000,
    "send " + "1" * 100000, "send \u0661", "send \u00b2", "send \u0967", "send \uff11", "send 1\u0661", "send \u2460",
    "send \u00bd", "send \u4e00", "send \U0001d7cf", "send \ud800", "\ud800", "send 1\ud800", "send True", "send None",
    "Send 1", "SEND 1", "sEnd 1", "sent 1", "sen 1", "sends 1", "s 1", "se nd 1", "hand", "tell ", "give 1", "tells 1",
    "send,1", "send:1", "send=1", "send/1", "send-1", "('send', 1)", "send hand 1", "sendhandtell 1", "sendhand 1",
    "\u017fend 1", "\uff53end 1", "letter 1", "answer 1", "base 1", "no line", "not now", "send hand",
]


class TestLines(unittest.TestCase):
    def test_shown(self):
        self.assertEqual(shown(("send", 0)), "send 0")
        self.assertEqual(shown(("hand", 10)), "hand 10")
        self.assertEqual(shown(("tell", 999999)), "tell 999999")
        self.assertIs(type(shown(("send", 0))), str)

    def test_read(self):
        self.assertEqual(read("send 0"), ("send", 0))
        self.assertEqual(read("hand 10"), ("hand", 10))
        self.assertEqual(read("tell 999999"), ("tell", 999999))
        self.assertEqual([type(read("send 7")), *map(type, read("send 7"))], [tuple, str, int])

    def test_each_line_is_read_to_its_step(self):
        for word in WORDS:
            for number in NUMBERS:
                line = f"{word} {number}"
                self.assertEqual(shown((word, number)), line)
                self.assertEqual(read(line), (word, number))
                self.assertIs(type(read(line)[1]), int)

    def test_what_is_no_step(self):
        for which, thing in enumerate(no_steps()):
            with self.subTest(which):
                with self.assertRaises(BadStep) as caught:
                    shown(thing)
                self.assertIs(caught.exception.__class__, BadStep)

    def test_what_is_no_line(self):
        for line in NO_LINES:
            for word in WORDS:
                self.is_none(line.replace("send", word))

    def test_each_sign_ahead_of_and_behind_the_figures(self):
        for code in [*range(300), 0x200b, 0x2212, 0xd7ff, 0xdfff, 0xffff, 0x10ffff]:
            sign = chr(code)
            if sign not in "123456789":
                self.is_none(f"send {sign}1")
            if sign not in "0123456789":
                self.is_none(f"send 1{sign}")
                self.is_none(f"send {sign}")
                self.is_none(f"send 1{sign}1")
            self.is_none(f"{sign}send 1")
            if sign != " ":
                self.is_none(f"send{sign}1")

    def test_kinds(self):
        things = [
            b"send 1", bytearray(b"send 1"), ["send 1"], ("send 1",), ("send", 1), {"send 1": 1}, OddText("send 1"),
            OddText("send 0"), ["s", "e", "n", "d", " ", "1"], OddList(["send", 1]),
        ]
        for thing in things + no_whole_numbers():
            self.is_none(thing)

    def is_none(self, line):
        with self.assertRaises(NoLine) as caught:
            read(line)
        self.assertIs(caught.exception.__class__, NoLine)


class TestPlayed(unittest.TestCase):
    def test_each_sort_of_line(self):
        lines = ["send 0", "send 2", "hand 0", "tell 0", "send 1", "send 1", "hand 2", "hand 0", "tell 1", "tell 2",
                 "SEND 1", "send 999999", "hand 1000000", "tell 999999", "", None, "send 0"]
        told = ["letter 0", "not now", "answer 0", "base 1", "letter 1", "letter 2", "answer 1", "no letter", "base 2",
                "no letter", "no line", "not now", "no line", "no letter", "no line", "no line", "not now"]
        self.assertEqual(played((2, 2, 1, 0), 5, ["a", "b"], lines), told)

    def test_kinds_of_what_is_told(self):
        told = played((1, 1, 0, 0), 2, ["a"], ["send 0", "x", "tell 0"])
        self.assertEqual([type(told), *map(type, told)], [list, str, str, str])

    def test_no_lines(self):
        self.assertEqual(played((1, 1, 0, 0), 2, [], []), [])
        self.assertEqual(played((1, 1, 0, 0), 2, ["a"], []), [])

    def test_the_same_line_again_and_again(self):
        told = played((1, 1, 0, 0), 2, ["a"], ["send 0", "hand 0"] + ["send 0", "hand 1", "tell 1"] + ["send 0"] * 2)
        self.assertEqual(told, ["letter 0", "answer 0", "letter 1", "answer 1", "base 1", "not now", "not now"])

    def test_numbers_of_more_figures(self):
        told = played((1, 1, 20, 0), 22, ["a"], ["send 0"] * 12 + ["hand 11"] * 11)
        self.assertEqual(told[9:12], ["letter 9", "letter 10", "letter 11"])
        self.assertEqual(told[-2:], ["answer 9", "answer 10"])

    def test_without_texts(self):
        told = played((1, 1, 0, 0), 2, [], ["send 0", "hand 0", "tell 0", "hand"])
        self.assertEqual(told, ["not now", "no letter", "no letter", "no line"])

    def test_lines_of_other_kinds(self):
        things = no_whole_numbers() + [("send", 0), b"send 0", OddText("send 0")]
        told = played((1, 1, 0, 0), 2, ["a"], ["send 0", *things, "hand 0"])
        self.assertEqual(told, ["letter 0", *["no line"] * len(things), "answer 0"])

    def test_as_do_tells(self):
        lines = [f"{word} {number}" for k in range(40) for word in WORDS for number in [k // 2, k // 3, k]]
        lines += NO_LINES[:10]
        run = Run((4, 2, 3, 2), 5, texts_of(30))
        self.assertEqual(played((4, 2, 3, 2), 5, texts_of(30), lines), [self.told(run, line) for line in lines])

    def told(self, run, line):
        try:
            number = run.do(read(line))
        except (NoLine, NotNow, NoLetter) as refusal:
            return {NoLine: "no line", NotNow: "not now", NoLetter: "no letter"}[refusal.__class__]
        return {"s": "letter ", "h": "answer ", "t": "base "}[line[0]] + str(number)

    def test_refusals(self):
        for lines in [[], ["send 0"], ["x"]]:
            for bounds in [None, (1, 2, 0, 0), [1, 1, 0, 0]]:
                for ring in [2, 0, True]:
                    for texts in [["a"], None, [1]]:
                        self.refused(BadBounds, bounds, ring, texts, lines)
            for ring in [0, 201, True, None]:
                for texts in [["a"], None, [1], [""] * 401]:
                    self.refused(BadRing, (1, 1, 0, 0), ring, texts, lines)
            for texts in [None, ("a",), [1], [""] * 401, ["a" * 41], "a"]:
                self.refused(BadTexts, (1, 1, 0, 0), 2, texts, lines)

    def refused(self, error, *told):
        with self.assertRaises(error) as caught:
            played(*told)
        self.assertIs(caught.exception.__class__, error)

    def test_nothing_that_is_handed_in_is_changed(self):
        texts, lines = texts_of(3), ["send 0", "hand 0", "x", "tell 0"]
        told = played((2, 2, 0, 0), 4, texts, lines)
        self.assertEqual((texts, lines), (texts_of(3), ["send 0", "hand 0", "x", "tell 0"]))
        told.clear()
        self.assertEqual(len(played((2, 2, 0, 0), 4, texts, lines)), 4)


if __name__ == "__main__":
    unittest.main()
