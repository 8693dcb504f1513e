"""Points 2 and 4: places, spans, length, meeting, apart, lying within."""

import itertools
import unittest

from spanshelf.errors import NoSpan
from spanshelf.spans import length_of, lies_within, meet

GREATEST = 10 ** 12 - 1
LEAST = -GREATEST

NO_SPANS = [
    (3, 3),
    (0, 0),
    (-4, -4),
    (4, 3),
    (1, -1),
    (-3, -4),
    (GREATEST, LEAST),
    (GREATEST, GREATEST),
    (0, GREATEST + 1),
    (GREATEST, GREATEST + 1),
    (LEAST - 1, 0),
    (LEAST - 1, LEAST),
    (LEAST - 1, GREATEST + 1),
    (GREATEST + 1, GREATEST + 2),
    (LEAST - 2, LEAST - 1),
    (0, 10 ** 30 - 1),
    (1 - 10 ** 30, 0),
    (0, 10 ** 5000),
]

SMALL_SPANS = [(low, high) for low in range(-3, 4) for high in range(low + 1, 5)]


def places(span):
    return set(range(span[0], span[1]))


class LengthTest(unittest.TestCase):
    def test_is_how_many_places_it_holds(self):
        for span in SMALL_SPANS:
            self.assertEqual(length_of(span), len(places(span)), span)

    def test_of_twelve_figures(self):
        self.assertEqual(length_of((LEAST, GREATEST)), 2 * GREATEST)
        self.assertEqual(length_of((GREATEST - 1, GREATEST)), 1)
        self.assertEqual(length_of((LEAST, LEAST + 1)), 1)

    def test_refuses_what_is_no_span(self):
        for wrong in NO_SPANS:
            with self.subTest(wrong[0]):
                with self.assertRaises(NoSpan) as caught:
                    length_of(wrong)
                self.assertIs(caught.exception.__class__, NoSpan)

    def test_truths_are_no_places(self):
        for wrong in [(False, True), (False, 5), (-2, True)]:
            with self.assertRaises(NoSpan):
                length_of(wrong)


class TwoSpansTest(unittest.TestCase):
    def test_meet_where_both_hold_one_place(self):
        for one, other in itertools.product(SMALL_SPANS, SMALL_SPANS):
            self.assertIs(meet(one, other), bool(places(one) & places(other)), (one, other))

    def test_lies_within_where_each_place_is_held(self):
        for one, other in itertools.product(SMALL_SPANS, SMALL_SPANS):
            self.assertIs(lies_within(one, other), places(one) <= places(other), (one, other))

    def test_spans_that_touch_are_apart(self):
        self.assertIs(meet((0, 5), (5, 9)), False)
        self.assertIs(meet((5, 9), (0, 5)), False)
        self.assertIs(meet((0, 6), (5, 9)), True)

    def test_a_span_with_itself(self):
        span = (7, 8)
        self.assertIs(meet(span, span), True)
        self.assertIs(lies_within(span, span), True)

    def test_within_is_asked_of_the_first(self):
        self.assertIs(lies_within((2, 3), (1, 4)), True)
        self.assertIs(lies_within((1, 4), (2, 3)), False)

    def test_of_twelve_figures(self):
        line = (LEAST, GREATEST)
        self.assertIs(meet(line, (GREATEST - 1, GREATEST)), True)
        self.assertIs(meet((LEAST, 0), (0, GREATEST)), False)
        self.assertIs(lies_within((LEAST, LEAST + 1), line), True)
        self.assertIs(lies_within(line, (LEAST + 1, GREATEST)), False)

    def test_refuse_what_is_no_span_at_either_place(self):
        for ask in (meet, lies_within):
            for wrong in NO_SPANS:
                with self.subTest(ask.__name__):
                    for pair in [(wrong, (0, 1)), ((0, 1), wrong), (wrong, wrong)]:
                        with self.assertRaises(NoSpan) as caught:
                            ask(*pair)
                        self.assertIs(caught.exception.__class__, NoSpan)


if __name__ == "__main__":
    unittest.main()
