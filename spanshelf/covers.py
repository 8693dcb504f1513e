"""Covers: rising lists of spans, of which each begins behind the place at which the one ahead ends."""

from spanshelf.errors import NoCover
from spanshelf.spans import GREATEST_PLACE, LEAST_PLACE, check_spans

MOST_SPANS = 200


def is_cover(spans):
    if len(spans) > MOST_SPANS:
        return False
    return all(ahead[1] < behind[0] for ahead, behind in zip(spans, spans[1:]))


def check_cover(cover):
    check_spans(cover)
    if not is_cover(cover):
        raise NoCover("a cover is at most 200 spans, each beginning behind the place at which the one ahead ends")


def check_covers(one, other):
    check_cover(one)
    check_cover(other)


def joined(spans):
    cover = []
    for low, high in sorted(spans):
        # Spans that only touch are joined too: no span of a cover begins where one ends.
        if cover and low <= cover[-1][1]:
            begin, end = cover[-1]
            cover[-1] = (begin, max(end, high))
        else:
            cover.append((low, high))
    return cover


def common(one, other):
    found = []
    first = 0
    second = 0
    while first < len(one) and second < len(other):
        low = max(one[first][0], other[second][0])
        high = min(one[first][1], other[second][1])
        if low < high:
            found.append((low, high))
        # The span that ends sooner meets nothing further on in the other list.
        if one[first][1] < other[second][1]:
            first += 1
        else:
            second += 1
    return found


def gaps_of(cover):
    gaps = []
    low = LEAST_PLACE
    for begin, end in cover:
        if low < begin:
            gaps.append((low, begin))
        low = end
    # No span holds the greatest place, as its high is a place too.
    if low < GREATEST_PLACE:
        gaps.append((low, GREATEST_PLACE))
    return gaps


def cover_of(spans):
    """Tell the cover of just the places that one of the spans holds."""
    check_spans(spans)
    return joined(spans)


def both(one, other):
    """Tell the cover of the places that both covers hold."""
    check_covers(one, other)
    return common(one, other)


def either(one, other):
    """Tell the cover of the places that either cover holds."""
    check_covers(one, other)
    return joined(one + other)


def less(one, other):
    """Tell the cover of the places that the first cover holds and the second doesn't."""
    check_covers(one, other)
    return common(one, gaps_of(other))


def held(cover):
    """Tell how many places the cover holds."""
    check_cover(cover)
    return sum(high - low for low, high in cover)
