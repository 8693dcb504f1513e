"""Apart: the most spans of a list that lie apart, and as many places that pierce all."""

from spanshelf.spans import all_apart, are_numbers, check_spans


def is_pierced(span, pins):
    low, high = span
    return any(low <= pin < high for pin in pins)


def most_apart(spans):
    """Tell a tuple of the numbers of spans that lie apart, and as many places, such that each span holds one."""
    check_spans(spans)
    chosen = []
    pins = []
    for high, low, number in sorted([(high, low, number) for number, (low, high) in enumerate(spans)]):
        # Whatever ends no sooner than a chosen span and meets it holds the last place of the chosen one.
        if not pins or pins[-1] < low:
            chosen.append(number)
            pins.append(high - 1)
    return (sorted(chosen), pins)


def shows_apart(spans, chosen, pins):
    """Tell whether the chosen numbers are those of spans that lie apart, and as many pins pierce all spans."""
    check_spans(spans)
    if not are_numbers(chosen, spans) or len(pins) != len(chosen):
        return False
    if not all_apart([spans[number] for number in chosen]):
        return False
    return all(is_pierced(span, pins) for span in spans)
