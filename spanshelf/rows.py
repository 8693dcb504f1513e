"""Rows: the fewest rows for all spans of a list, those of one row apart, and a place that is so deep."""

from spanshelf.depths import count_at, deepest
from spanshelf.spans import all_apart, check_spans


def first_free(ends, low):
    """Tell the first row that has ended at this place, or the number of a new one."""
    for row, end in enumerate(ends):
        if end <= low:
            return row
    return len(ends)


def rows_of(spans):
    """Tell a tuple of a row for each span, and a place at which the depth is as many as there are rows."""
    check_spans(spans)
    if not spans:
        return ([], None)
    rows = [0] * len(spans)
    ends = []
    # By their lows, a span finds all rows taken only where one span of each row holds its low.
    for (low, high), number in sorted([(span, number) for number, span in enumerate(spans)]):
        row = first_free(ends, low)
        if row == len(ends):
            ends.append(high)
        else:
            ends[row] = high
        rows[number] = row
    depth, place = deepest(spans)
    return (rows, place)


def row_is_apart(spans, rows, wanted):
    return all_apart([span for span, row in zip(spans, rows) if row == wanted])


def shows_rows(spans, rows, place):
    """Tell whether the rows part the spans, and are no more than the spans that hold the place."""
    check_spans(spans)
    if len(rows) != len(spans):
        return False
    if not spans or place is None:
        return not spans and place is None
    many = count_at(spans, place)
    if not all(0 <= row < many for row in rows):
        return False
    return all(row_is_apart(spans, rows, row) for row in range(many))
