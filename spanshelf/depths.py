"""Depths: how many spans of a list hold a place."""

from spanshelf.spans import check_place, check_spans


def count_at(spans, place):
    return sum(1 for low, high in spans if low <= place < high)


def changes_of(spans):
    changes = {}
    for low, high in spans:
        changes[low] = changes.get(low, 0) + 1
        changes[high] = changes.get(high, 0) - 1
    # Where as many end as begin, the depth goes on as it was, and no layer ends.
    return [(place, changes[place]) for place in sorted(changes) if changes[place] != 0]


def layers_of(spans):
    layers = []
    depth = 0
    begin = 0
    for place, change in changes_of(spans):
        if depth > 0:
            layers.append((begin, place, depth))
        depth += change
        begin = place
    return layers


def deepest_layer(spans):
    best = None
    for low, high, depth in layers_of(spans):
        if best is None or depth > best[0]:
            best = (depth, low)
    return best


def depth_at(spans, place):
    """Tell how many of the spans hold the place."""
    check_spans(spans)
    check_place(place)
    return count_at(spans, place)


def profile(spans):
    """Tell the longest spans of places of one depth above 0, rising, as tuples (low, high, depth)."""
    check_spans(spans)
    return layers_of(spans)


def deepest(spans):
    """Tell a tuple of the greatest depth and the least place that has it, or None where there is no span."""
    check_spans(spans)
    return deepest_layer(spans)
