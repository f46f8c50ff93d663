"""Steps as lines, and lines played on a run."""

from ringpost.errors import NoLetter, NoLine, NotNow
from ringpost.runs import Run
from ringpost.steps import is_word, need_step

FIGURES = "0123456789"
MOST_FIGURES = 6
TOLD = {"send": "letter", "hand": "answer", "tell": "base"}


def shown(step):
    """The line of a step."""
    need_step(step)
    word, number = step
    return f"{word} {number}"


def read(line):
    """The step of a line."""
    if type(line) is not str:
        raise NoLine("a line is a string")
    word, _, figures = line.partition(" ")
    if not is_word(word) or not are_figures(figures):
        raise NoLine("a line is a word, one blank and a number")
    return (word, int(figures))


def are_figures(text):
    """Whether a text is the number of a step as it is written."""
    if not 1 <= len(text) <= MOST_FIGURES:
        return False
    if text[0] == "0" and text != "0":
        return False
    return all(sign in FIGURES for sign in text)


def played(bounds, ring, texts, lines):
    """What is told of each line, all done on one run."""
    run = Run(bounds, ring, texts)
    told = []
    for line in lines:
        told.append(said(run, line))
    return told


def said(run, line):
    """Does the step of a line, if it is one and can be done: what is told of it."""
    try:
        step = read(line)
        number = run.do(step)
    except NoLine:
        return "no line"
    except NotNow:
        return "not now"
    except NoLetter:
        return "no letter"
    return f"{TOLD[step[0]]} {number}"
