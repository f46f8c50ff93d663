"""Steps that bring a run to its end, from wherever it stands."""

from ringpost.steps import Trail


def finishing(run):
    """Steps that bring all texts out, and the base to how many there are."""
    course = run.copied()
    trail = Trail(course)
    base, _, want = course.counts()
    if base < want:
        # The newest answer bears the want, and with such a ring the sender
        # can't take it for another one: the base is the want then.
        trail.told_newest()
    while is_text_wanted(course):
        trail.brought(course.counts()[2])
        trail.told_newest()
    return trail.steps()


def is_text_wanted(run):
    """Whether the sender knows what the taker wants, and there is such a text."""
    base, _, want = run.counts()
    return base == want and want < run.many()
