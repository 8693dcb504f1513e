"""Giving: places of their own for as many spans as can have one, or for the heaviest, and windows that ask too much."""

from spanshelf.spans import LEAST_PLACE, all_apart, check_spans, ends_of, is_inside, is_span
from spanshelf.weights import check_weights, weight_of


def places_for(spans, numbers):
    """Tell a place for as many of the spans with these numbers as can have one, by their numbers."""
    given = {}
    left = [(spans[number][1], spans[number][0], number) for number in numbers]
    place = LEAST_PLACE
    while left:
        place = max(place, min(low for high, low, number in left))
        # Of all that hold the place, the one that ends soonest has the fewest places left to choose from.
        high, low, chosen = min([row for row in left if row[1] <= place])
        given[chosen] = place
        place += 1
        left = [row for row in left if row[2] != chosen and place < row[0]]
    return given


def as_giving(spans, given):
    return [given.get(number) for number in range(len(spans))]


def asks_too_much(window, spans):
    """Tell how many spans lie within the window, less its length."""
    low, high = window
    return sum(1 for span in spans if is_inside(span, window)) - (high - low)


def greediest_windows(spans):
    """Tell windows that ask too much by the most together, each of them by one at least."""
    ends = ends_of(spans)
    most = [0] * len(ends)
    came = [None] * len(ends)
    for there in range(1, len(ends)):
        most[there] = most[there - 1]
        # A window that is as long as there are spans, or longer, does not ask too much.
        for here in [at for at in range(there) if ends[there] - ends[at] < len(spans)]:
            asked = most[here] + asks_too_much((ends[here], ends[there]), spans)
            if asked > most[there]:
                most[there] = asked
                came[there] = here
    return windows_back_from_last(ends, came)


def windows_back_from_last(ends, came):
    windows = []
    at = len(ends) - 1
    while at > 0:
        if came[at] is None:
            at -= 1
        else:
            windows.append((ends[came[at]], ends[at]))
            at = came[at]
    return windows[::-1]


def giving(spans):
    """Tell a tuple of a giving in which as few as can be have None, and windows that ask too much by as many."""
    check_spans(spans)
    given = places_for(spans, list(range(len(spans))))
    return (as_giving(spans, given), greediest_windows(spans))


def is_giving(spans, given):
    places = [place for place in given if place is not None]
    if len(given) != len(spans) or len(set(places)) != len(places):
        return False
    return all(place is None or low <= place < high for place, (low, high) in zip(given, spans))


def are_windows(windows):
    return all(is_span(window) for window in windows) and all_apart(windows)


def shows_giving(spans, given, windows):
    """Tell whether this is a giving, in which as many have None as the windows ask too much."""
    check_spans(spans)
    if not is_giving(spans, given) or not are_windows(windows):
        return False
    return given.count(None) == sum(asks_too_much(window, spans) for window in windows)


def heaviest_giving(spans, weights):
    """Tell a tuple of a giving in which the spans that have a place weigh the most, and how much."""
    check_spans(spans)
    check_weights(weights, spans)
    chosen = []
    # The heaviest that still fits is taken: it keeps at most one span out later, and that weighs no more.
    for lightness, number in sorted([(-weight, number) for number, weight in enumerate(weights)]):
        if len(places_for(spans, chosen + [number])) > len(chosen):
            chosen.append(number)
    return (as_giving(spans, places_for(spans, chosen)), weight_of(chosen, weights))
