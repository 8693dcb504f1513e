"""Spans: tuples (low, high) of two places, which hold the places from low to high - 1."""

from spanshelf.errors import NoPlace, NoSpan

LEAST_PLACE = -999999999999
GREATEST_PLACE = 999999999999


def is_whole(number):
    # Python counts True and False among the integers, the line of places does not.
    return isinstance(number, int) and not isinstance(number, bool)


def is_place(number):
    return is_whole(number) and LEAST_PLACE <= number <= GREATEST_PLACE


def is_span(span):
    if not isinstance(span, tuple) or len(span) != 2:
        return False
    low, high = span
    return is_place(low) and is_place(high) and low < high


def check_span(span):
    # The message leaves the numbers out: Python refuses to write those of thousands of figures.
    if not is_span(span):
        raise NoSpan("a span is a tuple of two places of at most 12 figures, the low less than the high")


def check_spans(spans):
    for span in spans:
        check_span(span)


def check_place(place):
    if not is_place(place):
        raise NoPlace("a place is a whole number of at most 12 figures")


def are_numbers(chosen, spans):
    """Tell whether these are numbers of the spans, none twice."""
    return all(0 <= number < len(spans) for number in chosen) and len(set(chosen)) == len(chosen)


def ends_of(spans):
    """Tell all lows and highs of the spans, rising, each once."""
    return sorted({place for span in spans for place in span})


def all_apart(spans):
    # In order, a span that meets any further one meets the next one too: neighbours are enough.
    ordered = sorted(spans)
    return all(ahead[1] <= behind[0] for ahead, behind in zip(ordered, ordered[1:]))


def share_a_place(one, other):
    return one[0] < other[1] and other[0] < one[1]


def is_inside(one, other):
    return other[0] <= one[0] and one[1] <= other[1]


def length_of(span):
    """Tell how many places the span holds."""
    check_span(span)
    low, high = span
    return high - low


def meet(one, other):
    """Tell whether both spans hold one place."""
    check_span(one)
    check_span(other)
    return share_a_place(one, other)


def lies_within(one, other):
    """Tell whether the other span holds each place that the one holds."""
    check_span(one)
    check_span(other)
    return is_inside(one, other)
