"""Texts: spans, covers and shelves written as texts, and read of them; each has just one text."""

from spanshelf.covers import check_cover, is_cover
from spanshelf.errors import NoText
from spanshelf.names import is_name
from spanshelf.shelf import MOST_KEPT, shelf_of
from spanshelf.spans import check_span, is_span
from spanshelf.weights import is_weight

MOST_FIGURES = 12


def number_from(word):
    """Tell the whole number of at most 12 figures that is written so, or None where none is."""
    figures = word[1:] if word.startswith("-") else word
    # They are counted first: Python refuses to read numbers of thousands of figures.
    if not 1 <= len(figures) <= MOST_FIGURES or not all("0" <= sign <= "9" for sign in figures):
        return None
    if figures[0] == "0" and word != "0":
        return None
    return int(word)


def span_from(text):
    """Tell the span that is written so, or None where none is."""
    # A word that is no number becomes None, which is no place.
    ends = tuple([number_from(word) for word in text.split("..")])
    return ends if is_span(ends) else None


def row_from(line):
    """Tell a tuple of the name, the span and the weight that are written so, or None where none are."""
    words = line.split(" ")
    if len(words) != 3 or not is_name(words[0]):
        return None
    span = span_from(words[1])
    weight = number_from(words[2])
    if span is None or not is_weight(weight):
        return None
    return (words[0], span, weight)


def are_rows(rows):
    if None in rows or len(rows) > MOST_KEPT:
        return False
    return all(ahead[0] < behind[0] for ahead, behind in zip(rows, rows[1:]))


def show_span(span):
    """Tell the text of the span."""
    check_span(span)
    low, high = span
    return f"{low}..{high}"


def show_cover(cover):
    """Tell the text of the cover."""
    check_cover(cover)
    return " ".join([show_span(span) for span in cover])


def show_shelf(shelf):
    """Tell the text of the shelf."""
    return "\n".join([f"{name} {show_span(shelf.span(name))} {shelf.weight(name)}" for name in shelf.names()])


def read_span(text):
    """Tell the span that has this text."""
    span = span_from(text)
    if span is None:
        raise NoText("this is not the text of a span")
    return span


def read_cover(text):
    """Tell the cover that has this text."""
    cover = [span_from(word) for word in text.split(" ")] if text else []
    if None in cover or not is_cover(cover):
        raise NoText("this is not the text of a cover")
    return cover


def read_shelf(text):
    """Tell a shelf that has this text, with no deeds to take back or to do again."""
    rows = [row_from(line) for line in text.split("\n")] if text else []
    if not are_rows(rows):
        raise NoText("this is not the text of a shelf")
    return shelf_of({name: (span, weight) for name, span, weight in rows})
