"""For each ring that is less than the least one, steps with which something goes wrong."""

from ringpost.bounds import least_ring, need_bounds, need_ring
from ringpost.errors import Safe
from ringpost.runs import Run
from ringpost.steps import Trail


def breaking(bounds, ring):
    """Steps of a run of ring and one texts at the end of which something is wrong."""
    need_bounds(bounds)
    need_ring(ring)
    if ring >= least_ring(bounds):
        raise Safe("nothing goes wrong with a ring that is no less than the least one")
    window, room, delay, _ = bounds
    # No step hangs on what the texts are, so any texts do here.
    trail = Trail(Run(bounds, ring, [""] * (ring + 1)))
    if ring < window + room + delay:
        come_old_letter(trail, window, delay, ring)
    else:
        come_old_answer(trail, window, room, ring)
    return trail.steps()


def come_old_letter(trail, window, delay, ring):
    """A letter of text 0 that was kept back comes for text ring, and text 0 comes out so."""
    sent = min(window, ring)
    for k in range(sent):
        trail.brought(k)
    # The sender has heard nothing yet, so it may send text 0 once more; the
    # letter is there until as many as the delay were posted behind it.
    old = trail.done("send", 0)
    late = min(window + delay, ring)
    go_on(trail, sent, late)
    # The taker wants text late now, and text ring is no further than its room.
    trail.done("hand", old)
    go_on(trail, late, ring)


def come_old_answer(trail, window, room, ring):
    """An answer from when text 1 was wanted comes as one for text ring and one."""
    old = trail.brought(0)
    trail.told_want()
    # While text 1 is lost, the room behind it fills, and it is still wanted.
    trail.done("send", 1)
    for k in range(2, room + 1):
        old = trail.brought(k)
    trail.brought(1)
    # The more came out by one letter, the fewer answers are behind the old one.
    last = ring + 1 - window
    go_on(trail, room + 1, last)
    trail.told_want()
    for k in range(last, ring + 1):
        trail.done("send", k)
    trail.done("tell", old)


def go_on(trail, start, end):
    """Brings the texts from start to end, without end, and first tells of what came till then."""
    for k in range(start, end):
        trail.told_want()
        trail.brought(k)
