"""Two shelves: which of their spans clash, what both cover, and what the first covers alone."""

from spanshelf.covers import both, less
from spanshelf.spans import share_a_place


def named_spans(shelf):
    return [(name, shelf.span(name)) for name in shelf.names()]


def clashes(one, other):
    """Tell tuples of a name of the first and one of the second shelf, in order, of all spans that meet."""
    ours = named_spans(one)
    theirs = named_spans(other)
    return [(name, rival) for name, span in ours for rival, around in theirs if share_a_place(span, around)]


def shared(one, other):
    """Tell the cover of the places that both shelves cover."""
    return both(one.cover(), other.cover())


def spare(one, other):
    """Tell the cover of the places that the first shelf covers and the second doesn't."""
    return less(one.cover(), other.cover())
