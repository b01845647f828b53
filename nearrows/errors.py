"""The refusals, in the order in which they are met where several are due."""


class NearError(ValueError):
    """Any refusal."""


class NoShape(NearError):
    """What was handed in is no shape."""


class NoRow(NearError):
    """What was handed in is no row of the shape, or not one of the heap."""


class NoNearness(NearError):
    """What was handed in is no nearness of the shape."""


class NoNumber(NearError):
    """What was handed in is no whole number of the needed range."""


class NoHeap(NearError):
    """What was handed in is no heap of the shape, or not a fitting one."""


class NotCovering(NearError):
    """The heap does not cover; row is the first far one."""

    def __init__(self, row):
        self.row = row


class NoWeights(NearError):
    """What was handed in is no weighting of the shape."""


class NoCounts(NearError):
    """What was handed in are no counts of the shape."""


class NoMaking(NearError):
    """What was handed in is no making."""


class NoMatrix(NearError):
    """What was handed in is no matrix."""


class NoGoals(NearError):
    """What was handed in are no goals of the matrix."""


class NotNormal(NearError):
    """A heap is not normal at the spot at which it is to be joined."""


class NoExchange(NearError):
    """What was handed in is no exchange of the shape."""


class TooMany(NearError):
    """There are more rows than can be looked through."""


class NoReason(NearError):
    """What was handed in is no reason from beneath."""


class NoAnswers(NearError):
    """What was handed in are no answers of the shape."""


class NoText(NearError):
    """What was handed in is no text that the program writes."""


class NoSay(NearError):
    """What was said is no row that a desk takes."""


class NoName(NearError):
    """A name is none, or nothing of its sort stands by it."""
