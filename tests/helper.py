"""Lists of spans and checks that several test files share."""

import contextlib
import copy
import itertools
import random
import signal
import unittest

from spanshelf.errors import NoDeed
from spanshelf.shelf import Shelf
from spanshelf.texts import show_shelf
from spanshelf.two import clashes

GREATEST = 10 ** 12 - 1
LEAST = -GREATEST
LINE = (LEAST, GREATEST)
FAR = 10 ** 30 - 1

NO_SPANS = [
    (3, 3),
    (4, 3),
    (-3, -4),
    (0, GREATEST + 1),
    (GREATEST, GREATEST + 1),
    (LEAST - 1, 0),
    (LEAST - 1, LEAST),
    (GREATEST, LEAST),
    (0, FAR),
    (-FAR, 0),
]

NO_PLACES = [GREATEST + 1, LEAST - 1, FAR, -FAR]

HEAVIEST = 10 ** 9

NO_WEIGHTS = [-1, HEAVIEST + 1, FAR, -FAR]

NO_WEIGHTS_OF_TWO = [
    [],
    [1],
    [1, 2, 3],
    [1, -1],
    [-1, 1],
    [1, HEAVIEST + 1],
    [HEAVIEST + 1, 1],
    [FAR, 1],
    [1, -FAR],
    [-1, HEAVIEST + 1],
    [1] * 60,
]

SIXTY_STAIRS = [(7 * k, 7 * k + 100) for k in range(60)]
SIXTY_NESTED = [(k - 60, 60 - k) for k in range(60)]
SIXTY_TOUCHING = [(k, k + 1) for k in range(60)][::-1]
SIXTY_OF_TWELVE_FIGURES = [
    (LEAST + 27_182_818_284 * k, LEAST + 27_182_818_284 * k + 10 ** 11 + 31_415_926_535 * (k * k % 7)) for k in range(60)
]

NAMED_LISTS = {
    "none": [],
    "one": [(4, 9)],
    "the same five times": [(4, 9)] * 5,
    "two that touch": [(5, 9), (0, 5)],
    "a row that touches": [(6, 8), (0, 2), (4, 6), (2, 4)],
    "twice two that touch": [(0, 5), (5, 9), (0, 5), (5, 9)],
    "the whole line": [LINE],
    "ends of the line": [LINE, (GREATEST - 1, GREATEST), (LEAST, LEAST + 1), (LEAST, 0), (0, GREATEST)],
    "below nought": [(-9, -4), (-6, -1), (-2, 3)],
    "sixty stairs": SIXTY_STAIRS,
    "sixty nested": SIXTY_NESTED,
    "sixty touching": SIXTY_TOUCHING,
    "sixty of twelve figures": SIXTY_OF_TWELVE_FIGURES,
    "sixty times the line": [LINE] * 60,
}


NO_NAMES = [
    "",
    "abcdefghi",
    "a" * 60,
    "A",
    "aB",
    "Ab",
    " ",
    "a b",
    " a",
    "a ",
    "a1",
    "1",
    "a\n",
    "\na",
    "a\nb",
    "\n",
    "a-b",
    "a.",
    "`",
    "{",
    "~",
    "a_b",
]


def spans_up_to(greatest):
    return [(low, high) for low in range(greatest) for high in range(low + 1, greatest + 1)]


def small_lists():
    """Give every list of up to three spans of four places, and every bag of four or five of them in some order."""
    spans = spans_up_to(4)
    for many in range(4):
        for row in itertools.product(spans, repeat=many):
            yield list(row)
    chance = random.Random(4)
    for many in (4, 5):
        for row in itertools.combinations_with_replacement(spans, many):
            mixed = list(row)
            chance.shuffle(mixed)
            yield mixed


def chance_span(chance, low, high, longest):
    begin = chance.randint(low, high - 1)
    return (begin, chance.randint(begin + 1, min(high, begin + longest)))


def chance_lists(seed, many):
    """Give as many lists of up to sixty spans, near each other or far, the same ones each time."""
    chance = random.Random(seed)
    for k in range(many):
        size = chance.choice([1, 2, 3, 6, 12, 30, 60])
        low, high, longest = chance.choice([
            (-9, 9, 5),
            (-30, 30, 60),
            (0, 200, 20),
            (LEAST, GREATEST, 10 ** 11),
            (LEAST, GREATEST, 2 * GREATEST),
        ])
        yield [chance_span(chance, low, high, longest) for at in range(size)]


def chance_weights(chance, many):
    greatest = chance.choice([1, 3, 50, HEAVIEST])
    return [chance.choice([0, greatest, chance.randint(0, greatest), chance.randint(0, greatest)]) for at in range(many)]


def with_wrong_span(wrong):
    """Give lists with a span that is none at each of their places."""
    return [[wrong], [wrong, (0, 1)], [(0, 1), wrong, (2, 3)], [(0, 1), wrong]]


def are_rising(row):
    return all(ahead < behind for ahead, behind in zip(row, row[1:]))


def are_numbers_of(chosen, spans):
    return sorted(set(chosen)) == sorted(chosen) and set(chosen) <= set(range(len(spans)))


def holds(span, place):
    return span[0] <= place < span[1]


def places(span):
    return set(range(span[0], span[1]))


def slow_depth(spans, place):
    many = 0
    for span in spans:
        if holds(span, place):
            many += 1
    return many


def are_apart(one, other):
    return max(one[0], other[0]) >= min(one[1], other[1])


def any_two_apart(spans):
    return all(are_apart(one, other) for one, other in itertools.combinations(spans, 2))


def subsets(many):
    for bits in range(2 ** many):
        yield [number for number in range(many) if bits >> number & 1]


def lists_within(told):
    """Give every list that stands anywhere in what was told, as often as it stands there."""
    if isinstance(told, (list, tuple)):
        if isinstance(told, list):
            yield told
        for one in told:
            yield from lists_within(one)


def letters(number):
    """Give a name for each number below 26 ** 2."""
    return "abcdefghijklmnopqrstuvwxyz"[number // 26] + "abcdefghijklmnopqrstuvwxyz"[number % 26]


def shelf_made_of(rows):
    """Make a shelf anew of tuples (span, weight) by names."""
    shelf = Shelf()
    for name, (span, weight) in rows.items():
        shelf.put(name, span, weight)
    return shelf


def shelf_of_spans(spans):
    return shelf_made_of({letters(number): (span, number) for number, span in enumerate(spans)})


def rows_on(shelf):
    return {name: (shelf.span(name), shelf.weight(name)) for name in shelf.names()}


def states_by(shelf, step):
    """Tell what stands on a shelf behind each step that can still be done; a twin does them."""
    twin = shelf.twin()
    states = []
    while True:
        try:
            getattr(twin, step)()
        except NoDeed:
            return states
        states.append(rows_on(twin))


def history_of(shelf):
    """Tell what stands on a shelf, behind all deeds taken back, and behind all done again."""
    return rows_on(shelf), states_by(shelf, "back"), states_by(shelf, "again")


def seen_in(handed):
    """Keep how things look that are handed in: shelves by their deeds, others by a copy."""
    return [history_of(one) if isinstance(one, Shelf) else copy.deepcopy(one) for one in handed]


def places_near(shelf):
    ends = {end for name in shelf.names() for end in shelf.span(name)} | {0}
    near = {end + step for end in ends for step in (-1, 0, 1)}
    return sorted(place for place in near if LEAST <= place <= GREATEST)


def answers_of(shelf):
    """Ask a shelf whatever it can be asked, but of its deeds."""
    near = places_near(shelf)[::3]
    some = list(zip(near, near[2:])) + [LINE, (0, 1)]
    return {
        "rows": rows_on(shelf),
        "names": shelf.names(),
        "holders": [shelf.holders(place) for place in near],
        "depth": [shelf.depth(place) for place in near],
        "meeting": [shelf.meeting(span) for span in some],
        "within": [shelf.within(span) for span in some],
        "deepest": shelf.deepest(),
        "profile": shelf.profile(),
        "cover": shelf.cover(),
        "room": [shelf.room(place, length) for place in near[::3] for length in (1, 2, 7, 10 ** 12)],
        "apart": shelf.apart(),
        "heaviest": [shelf.heaviest(k) for k in (1, 2, 20)],
        "text": show_shelf(shelf),
        "clashes": clashes(shelf, shelf),
    }


@contextlib.contextmanager
def soon(seconds=20):
    """Fail where what is within has not come to an end in time: one that tries all would never do."""
    def too_late(signum, frame):
        raise AssertionError("no answer came soon")
    old = signal.signal(signal.SIGALRM, too_late)
    signal.alarm(seconds)
    try:
        yield
    finally:
        signal.alarm(0)
        signal.signal(signal.SIGALRM, old)


class AskCase(unittest.TestCase):
    def assert_refused(self, kind, ask, *handed):
        before = seen_in(handed)
        with self.assertRaises(kind) as caught:
            ask(*handed)
        self.assertIs(caught.exception.__class__, kind)
        self.assertEqual(seen_in(handed), before)

    def assert_refused_by(self, shelf, kind, ask, *handed):
        """Point 2: a refusal changes nothing, neither what stands on the shelf nor its deeds."""
        before = history_of(shelf)
        self.assert_refused(kind, ask, *handed)
        self.assertEqual(history_of(shelf), before)

    def assert_truth(self, wanted, told, about=None):
        """Tell apart True and 1, False and None."""
        self.assertIs(told, wanted, about)

    def assert_own(self, ask, *handed):
        """Point 2: nothing handed in changes, and what is told is the asker's own."""
        before = copy.deepcopy(handed)
        told = ask(*handed)
        kept = copy.deepcopy(told)
        self.assertEqual(handed, before)
        self.assertEqual(ask(*handed), kept)
        lists = list(lists_within(told))
        strangers = lists + list(lists_within(handed))
        self.assertEqual(len({id(one) for one in strangers}), len(strangers))
        for one in lists:
            one.append(one[0] if one else 5)
            one.reverse()
        self.assertEqual(handed, before)
        self.assertEqual(ask(*handed), kept)
        for one in lists:
            one.clear()
        self.assertEqual(ask(*handed), kept)
        again = ask(*handed)
        for one in lists_within(handed):
            one.clear()
        self.assertEqual(again, kept)
        self.assertEqual(ask(*before), kept)
