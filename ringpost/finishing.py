"""Steps that bring a run to its end, from wherever it stands."""

from ringpost.steps import Trail


def finishing(run):
    """Steps that bring all texts out, and the base to how many there are."""
    course = run.copied()
    trail = Trail(course)
    hear(trail, course)
    while is_text_wanted(course):
        come(trail, course)
        hear(trail, course)
    return trail.steps()


def is_text_wanted(run):
    """Whether the sender knows what the taker wants, and there is such a text."""
    base, _, want = run.counts()
    return base == want and want < run.many()


def come(trail, run):
    """Lets the taker have a text that it lacks."""
    useful = run.useful()
    # A new letter may be the end of an old one that is of use, and numbers of
    # steps have an end: so a text is sent only where no such letter is there.
    if useful:
        trail.done("hand", useful[0])
    else:
        trail.brought(run.counts()[2])


def hear(trail, run):
    """Lets the sender know what the taker wants."""
    base, _, want = run.counts()
    # With such a ring no answer that bears the want can be taken for another.
    if base < want:
        trail.told_want()
