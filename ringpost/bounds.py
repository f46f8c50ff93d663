"""What bounds, rings and texts are, and the least ring of bounds."""

from ringpost.errors import BadBounds, BadRing, BadTexts

MOST_WINDOW = 20
MOST_BEHIND = 20
MOST_RING = 200
MOST_TEXTS = 400
MOST_SIGNS = 40


def is_whole(thing):
    """Whether a thing of any kind is a whole number."""
    # Exactly int: True and False are none, and a thing of a kind made from
    # int may compare as it likes, so nothing else is asked of such a thing.
    return type(thing) is int


def is_within(thing, least, most):
    """Whether a thing of any kind is a whole number from least to most."""
    return is_whole(thing) and least <= thing <= most


def are_bounds(thing):
    """Whether a thing of any kind is a tuple of window, room, delay and back."""
    if type(thing) is not tuple or len(thing) != 4:
        return False
    window, room, delay, back = thing
    if not is_within(window, 1, MOST_WINDOW) or not is_within(room, 1, window):
        return False
    return is_within(delay, 0, MOST_BEHIND) and is_within(back, 0, MOST_BEHIND)


def is_text(thing):
    """Whether a thing of any kind is a text; its signs are as they should be."""
    return type(thing) is str and len(thing) <= MOST_SIGNS


def are_texts(thing):
    """Whether a thing of any kind is a list of no more texts than there may be."""
    if type(thing) is not list or len(thing) > MOST_TEXTS:
        return False
    return all(is_text(part) for part in thing)


def need_bounds(thing):
    """None of bounds, else BadBounds."""
    if not are_bounds(thing):
        raise BadBounds("bounds are a tuple of window, room, delay and back")


def need_ring(thing):
    """None of a ring, else BadRing."""
    if not is_within(thing, 1, MOST_RING):
        raise BadRing("a ring is a whole number from 1 to 200")


def need_texts(thing):
    """None of a list of texts, else BadTexts."""
    if not are_texts(thing):
        raise BadTexts("texts are a list of up to 400 strings of up to 40 signs")


def least_ring(bounds):
    """The least ring with which nothing goes wrong within these bounds."""
    need_bounds(bounds)
    window, room, delay, back = bounds
    return window + room + max(delay, back)
