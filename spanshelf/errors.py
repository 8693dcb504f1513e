"""The refusals: to refuse is to raise one of these."""


class ShelfError(ValueError):
    """Any refusal."""


class NoSpan(ShelfError):
    """A tuple that is no span."""


class NoPlace(ShelfError):
    """A whole number that is no place."""


class NoCover(ShelfError):
    """A list of spans that is no cover."""


class NoWeight(ShelfError):
    """A number that is no weight, or a list that does not weigh the spans."""


class NoCount(ShelfError):
    """A whole number beyond the bounds of what it counts."""


class NoName(ShelfError):
    """A text that is no name, or a name that is not there."""


class Twice(ShelfError):
    """A name that is there already."""


class Full(ShelfError):
    """No room for one more."""


class Bare(ShelfError):
    """Nothing would be left."""


class NoDeed(ShelfError):
    """No deed to take back or to do again."""


class NoText(ShelfError):
    """A text that nothing is written as."""


class NoLine(ShelfError):
    """A line that a desk does not know."""
