"""Covering: the cheapest spans that hold each place of a span, and rents of its places that come to just their cost.

What covering costs at least, from the low of the span up to a place, grows only behind places at which spans end. So
these are the stops on the way, and what it grows by from stop to stop is the rent of the stop.
"""

from spanshelf.covers import joined
from spanshelf.spans import are_numbers, check_span, check_spans
from spanshelf.weights import check_weights, pay_of, pay_within, weight_of


def check_asked(span, spans, costs):
    check_span(span)
    check_spans(spans)
    check_weights(costs, spans)


def first_bare(span, spans):
    """Tell the least place, from the low of the span on, that none of the spans holds."""
    place = span[0]
    for low, high in joined(spans):
        if low <= place < high:
            place = high
    return place


def stops_of(span, spans):
    low, high = span
    return sorted(set([low, high] + [end for begin, end in spans if low < end < high]))


def first_stop(stops, place):
    """Tell the first stop that is not ahead of the place."""
    return min(stop for stop in stops if place <= stop)


def cheapest_ways(stops, spans, costs):
    """Tell what it costs at least to cover all up to each stop, and the last span of such a cover."""
    spent = {stops[0]: 0}
    came = {}
    for here, there in zip(stops, stops[1:]):
        ways = []
        # No span ends between two stops: one that holds the place here goes on to the next stop at least.
        for number, (low, high) in enumerate(spans):
            if low <= here < high:
                ways.append((spent[first_stop(stops, low)] + costs[number], number))
        spent[there], came[there] = min(ways)
    return spent, came


def way_to_the_last(stops, spans, came):
    chosen = []
    stop = stops[-1]
    while stop in came:
        chosen.append(came[stop])
        stop = first_stop(stops, spans[came[stop]][0])
    return sorted(chosen)


def rents_of(stops, spent):
    return [(here, spent[there] - spent[here]) for here, there in zip(stops, stops[1:]) if spent[there] > spent[here]]


def cheapest(span, spans, costs):
    """Tell ("cover", chosen, rents) of a cheapest cover of the span, or ("bare", place) where none covers it."""
    check_asked(span, spans, costs)
    place = first_bare(span, spans)
    if place < span[1]:
        return ("bare", place)
    stops = stops_of(span, spans)
    spent, came = cheapest_ways(stops, spans, costs)
    return ("cover", way_to_the_last(stops, spans, came), rents_of(stops, spent))


def covers_all(span, spans, chosen):
    return are_numbers(chosen, spans) and first_bare(span, [spans[number] for number in chosen]) >= span[1]


def are_rents(span, spans, costs, rents):
    """Tell whether only places of the span pay, none below nought, and no span's rents are more than its cost."""
    low, high = span
    if not all(low <= place < high and rent >= 0 for place, rent in rents):
        return False
    return all(pay_within(one, rents) <= cost for one, cost in zip(spans, costs))


def shows_cheapest(span, spans, costs, chosen, rents):
    """Tell whether the chosen spans cover the span, and cost just what the rents of its places come to."""
    check_asked(span, spans, costs)
    if not covers_all(span, spans, chosen) or not are_rents(span, spans, costs, rents):
        return False
    return weight_of(chosen, costs) == pay_of(rents)
