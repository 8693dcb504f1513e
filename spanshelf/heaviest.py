"""The heaviest: choices of spans that lie at most K deep, and the prices of places that no choice outweighs.

A choice for K is K lanes, each of which runs along the line and takes spans apart. One lane after another is added
by the way along the line that gains most; such a way may also go back over spans that were taken ahead, and so give
them up. How far such ways get when all lanes are there tells the prices.
"""

from spanshelf.depths import count_at
from spanshelf.errors import NoCount
from spanshelf.spans import are_numbers, check_spans, ends_of, is_whole
from spanshelf.weights import check_weights, pay_of, pay_within, weight_of

MOST_LANES = 20


def check_lanes(k):
    if not is_whole(k) or not 1 <= k <= MOST_LANES:
        raise NoCount("K is a whole number from 1 to 20")


def check_asked(spans, weights, k):
    check_spans(spans)
    check_weights(weights, spans)
    check_lanes(k)


def steps_between(ends, taken_spans, lanes):
    """Tell the steps that gain nothing: on from each end, and back where a lane runs that has taken no span."""
    steps = []
    for here, there in zip(ends, ends[1:]):
        steps.append((here, there, 0, None))
        if count_at(taken_spans, here) < lanes:
            steps.append((there, here, 0, None))
    return steps


def steps_over(spans, weights, taken):
    """Tell the steps over spans: on over one that is not taken, or back over a taken one, which loses its weight."""
    steps = []
    for number, (low, high) in enumerate(spans):
        if taken[number]:
            steps.append((high, low, -weights[number], number))
        else:
            steps.append((low, high, weights[number], number))
    return steps


def best_ways(spans, weights, taken, lanes):
    """Tell the most that can be gained up to each end, and, where that is more than nought, the last step there."""
    ends = ends_of(spans)
    taken_spans = [span for span, is_taken in zip(spans, taken) if is_taken]
    steps = steps_between(ends, taken_spans, lanes) + steps_over(spans, weights, taken)
    gains = {place: 0 for place in ends}
    came = {}
    better = True
    # This ends: so many lanes are at their heaviest, so no round of steps gains anything.
    while better:
        better = False
        for here, there, gain, number in steps:
            if gains[here] + gain > gains[there]:
                gains[there] = gains[here] + gain
                came[there] = (here, number)
                better = True
    return gains, came


def with_one_more_lane(spans, weights, taken, lanes):
    gains, came = best_ways(spans, weights, taken, lanes)
    changed = list(taken)
    place = max(high for low, high in spans)
    # Up to a place that no step is told of, the lane runs along the line and changes nothing.
    while place in came:
        place, number = came[place]
        if number is not None:
            changed[number] = not changed[number]
    return changed


def prices_of(gains):
    ends = sorted(gains)
    return [(here, gains[there] - gains[here]) for here, there in zip(ends, ends[1:]) if gains[there] > gains[here]]


def best_choice(spans, weights, k):
    if not spans:
        return ([], [])
    taken = [False] * len(spans)
    for lanes in range(k):
        taken = with_one_more_lane(spans, weights, taken, lanes)
    gains, came = best_ways(spans, weights, taken, k)
    return ([number for number, is_taken in enumerate(taken) if is_taken], prices_of(gains))


def heaviest(spans, weights, k):
    """Tell a tuple of the heaviest choice for K, and prices of places that come to just its weight."""
    check_asked(spans, weights, k)
    return best_choice(spans, weights, k)


def is_choice(spans, chosen, k):
    if not are_numbers(chosen, spans):
        return False
    picked = [spans[number] for number in chosen]
    # Depth grows only where a span begins, so no place is deeper than all lows.
    return all(count_at(picked, low) <= k for low, high in picked)


def bound_of(spans, weights, k, prices):
    """Tell what no choice for K outweighs: K times all prices, and what spans weigh more than theirs."""
    bound = k * pay_of(prices)
    for span, weight in zip(spans, weights):
        bound += max(0, weight - pay_within(span, prices))
    return bound


def shows_heaviest(spans, weights, k, chosen, prices):
    """Tell whether the chosen are a choice for K that weighs just what the prices come to."""
    check_asked(spans, weights, k)
    if not is_choice(spans, chosen, k) or any(price < 0 for place, price in prices):
        return False
    return weight_of(chosen, weights) == bound_of(spans, weights, k, prices)
