"""A shelf: spans by names, each with a weight, kept by deeds that can be taken back and done again.

A shelf remembers what it kept behind each deed, and which of these states is the one that stands now. Spans are asked
in the order of their names, so that no answer hangs on the deeds by which they came.
"""

from spanshelf.apart import most_apart
from spanshelf.covers import joined
from spanshelf.depths import count_at, deepest_layer, layers_of
from spanshelf.errors import Bare, Full, NoCount, NoDeed, NoName, Twice
from spanshelf.heaviest import best_choice, check_lanes
from spanshelf.names import check_name
from spanshelf.spans import check_place, check_span, is_inside, is_whole, share_a_place
from spanshelf.weights import check_weight

MOST_KEPT = 60
GREATEST_LENGTH = 10 ** 12


def kept_on(shelf):
    """Tell what stands on the shelf: tuples (span, weight) by names."""
    return shelf.states[shelf.now]


def keep(shelf, kept):
    """Do a deed behind which this stands on the shelf."""
    # A state is never changed once it is here: the shelf may go back to it, and twins share it.
    shelf.states = shelf.states[:shelf.now + 1] + [kept]
    shelf.now += 1


def row_of(shelf, name):
    kept = kept_on(shelf)
    if name not in kept:
        raise NoName("no span has this name")
    return kept[name]


def put_row(shelf, name, span, weight):
    kept = kept_on(shelf)
    keep(shelf, {**kept, name: (span, weight)})


def check_free(kept, names):
    if any(name in kept for name in names):
        raise Twice("a span has this name already")


def check_room(kept, more):
    if len(kept) + more > MOST_KEPT:
        raise Full("a shelf has at most 60 spans")


def check_length(length):
    if not is_whole(length) or not 1 <= length <= GREATEST_LENGTH:
        raise NoCount("a length is a whole number from 1 to 10 ** 12")


def spans_on(shelf):
    """Tell the spans of the shelf, in the order of their names."""
    kept = kept_on(shelf)
    return [kept[name][0] for name in sorted(kept)]


def weights_on(shelf):
    kept = kept_on(shelf)
    return [kept[name][1] for name in sorted(kept)]


def names_for(shelf, numbers):
    names = sorted(kept_on(shelf))
    return [names[number] for number in numbers]


def first_room(cover, place, length):
    begin = place
    for low, high in cover:
        if begin < high and low < begin + length:
            begin = high
    return begin


class Shelf:
    """Spans by names, each with a weight; at first none."""

    def __init__(self):
        self.states = [{}]
        self.now = 0

    def put(self, name, span, weight):
        """Put a span with its weight on the shelf, by a name that is free."""
        check_name(name)
        check_free(kept_on(self), [name])
        check_span(span)
        check_weight(weight)
        check_room(kept_on(self), 1)
        put_row(self, name, span, weight)

    def out(self, name):
        """Take the span out."""
        row_of(self, name)
        kept = kept_on(self)
        keep(self, {other: kept[other] for other in kept if other != name})

    def move(self, name, by):
        """Move both ends of the span by so many places further on."""
        (low, high), weight = row_of(self, name)
        moved = (low + by, high + by)
        check_span(moved)
        put_row(self, name, moved, weight)

    def clip(self, name, span):
        """Leave of the span what it and this one hold both."""
        (low, high), weight = row_of(self, name)
        check_span(span)
        part = (max(low, span[0]), min(high, span[1]))
        if part[0] >= part[1]:
            raise Bare("nothing is left of the span")
        put_row(self, name, part, weight)

    def weigh(self, name, weight):
        """Give the span this weight."""
        span, older = row_of(self, name)
        check_weight(weight)
        put_row(self, name, span, weight)

    def pour(self, shelf):
        """Put all spans of another shelf, or of this one, on this one, as one deed."""
        kept = kept_on(self)
        poured = kept_on(shelf)
        check_free(kept, list(poured))
        check_room(kept, len(poured))
        keep(self, {**kept, **poured})

    def back(self):
        """Take the last deed back that was done and not taken back."""
        if self.now == 0:
            raise NoDeed("no deed is left to take back")
        self.now -= 1

    def again(self):
        """Do the last deed again that was taken back, where none was done since."""
        if self.now + 1 == len(self.states):
            raise NoDeed("no deed is left to do again")
        self.now += 1

    def names(self):
        """Tell all names, in order."""
        return sorted(kept_on(self))

    def span(self, name):
        """Tell the span of this name."""
        span, weight = row_of(self, name)
        return span

    def weight(self, name):
        """Tell the weight of the span of this name."""
        span, weight = row_of(self, name)
        return weight

    def holders(self, place):
        """Tell the names of the spans that hold the place, in order."""
        check_place(place)
        kept = kept_on(self)
        return [name for name in sorted(kept) if kept[name][0][0] <= place < kept[name][0][1]]

    def meeting(self, span):
        """Tell the names of the spans that meet this one, in order."""
        check_span(span)
        kept = kept_on(self)
        return [name for name in sorted(kept) if share_a_place(kept[name][0], span)]

    def within(self, span):
        """Tell the names of the spans that lie within this one, in order."""
        check_span(span)
        kept = kept_on(self)
        return [name for name in sorted(kept) if is_inside(kept[name][0], span)]

    def depth(self, place):
        """Tell how many spans hold the place."""
        check_place(place)
        return count_at(spans_on(self), place)

    def deepest(self):
        """Tell a tuple of the greatest depth and the least place that has it, or None where there is no span."""
        return deepest_layer(spans_on(self))

    def profile(self):
        """Tell the longest spans of places of one depth above 0, rising, as tuples (low, high, depth)."""
        return layers_of(spans_on(self))

    def cover(self):
        """Tell the cover of just the places that one of the spans holds."""
        return joined(spans_on(self))

    def room(self, place, length):
        """Tell the least place from this one on at which a span of this length begins that meets none."""
        check_place(place)
        check_length(length)
        return first_room(joined(spans_on(self)), place, length)

    def apart(self):
        """Tell a tuple of the names of the most spans that lie apart, and as many places that pierce all."""
        chosen, pins = most_apart(spans_on(self))
        return (names_for(self, chosen), pins)

    def heaviest(self, k):
        """Tell a tuple of the names of the heaviest choice for K, and prices that come to just its weight."""
        check_lanes(k)
        chosen, prices = best_choice(spans_on(self), weights_on(self), k)
        return (names_for(self, chosen), prices)

    def twin(self):
        """Tell another shelf that is alike, with its deeds, also those taken back."""
        other = Shelf()
        other.states = list(self.states)
        other.now = self.now
        return other


def shelf_of(kept):
    """Tell a shelf on which this stands, with no deeds to take back or to do again."""
    shelf = Shelf()
    shelf.states = [kept]
    return shelf
