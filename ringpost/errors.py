"""The errors of ringpost, each straight under PostError."""


class PostError(ValueError):
    """Whatever ringpost refuses."""


class BadBounds(PostError):
    """What was handed in as bounds is none."""


class BadRing(PostError):
    """What was handed in as a ring is none."""


class BadTexts(PostError):
    """What was handed in as texts is no list of such."""


class BadStep(PostError):
    """What was handed in as a step is none."""


class NotNow(PostError):
    """A text that may not be sent as the sender stands."""


class NoLetter(PostError):
    """No number of anything that is there in the post."""


class Safe(PostError):
    """A ring with which nothing can be made to go wrong."""


class NoLine(PostError):
    """A line that is no step."""
