"""Points 2 and 5: covers."""

import itertools
import unittest

from spanshelf.covers import both, cover_of, either, held, less
from spanshelf.errors import NoCover, NoSpan

GREATEST = 10 ** 12 - 1
LEAST = -GREATEST
LINE = (LEAST, GREATEST)

OF_TWO = [both, either, less]

NO_SPANS = [
    (3, 3),
    (4, 3),
    (0, GREATEST + 1),
    (LEAST - 1, 0),
    (GREATEST, GREATEST + 1),
    (LEAST - 1, LEAST),
    (0, 10 ** 29),
]

NO_COVERS = [
    [(0, 2), (2, 4)],
    [(0, 3), (2, 4)],
    [(0, 9), (2, 4)],
    [(0, 2), (0, 2)],
    [(5, 6), (0, 1)],
    [(0, 1), (5, 6), (2, 3)],
    [(0, 1), (3, 4), (4, 5)],
    [(LEAST, 0), (0, GREATEST)],
]


def steps(many, low=0, length=1, step=3):
    return [(low + step * k, low + step * k + length) for k in range(many)]


def places(spans):
    return {place for low, high in spans for place in range(low, high)}


def cover_from(held_places):
    """Build the cover of some places the slow way, one place after another."""
    cover = []
    for place in sorted(held_places):
        if cover and cover[-1][1] == place:
            cover[-1] = (cover[-1][0], place + 1)
        else:
            cover.append((place, place + 1))
    return cover


def all_small_covers():
    many = 6
    for bits in range(2 ** many):
        yield cover_from({k - 3 for k in range(many) if bits >> k & 1})


class CoverTestCase(unittest.TestCase):
    def assert_refused(self, kind, ask, *handed):
        before = [list(one) for one in handed]
        with self.assertRaises(kind) as caught:
            ask(*handed)
        self.assertIs(caught.exception.__class__, kind)
        self.assertEqual([list(one) for one in handed], before)


class CoverOfTest(CoverTestCase):
    def test_every_list_of_up_to_three_small_spans(self):
        spans = [(low, high) for low in range(-2, 3) for high in range(low + 1, 4)]
        for many in range(4):
            for row in itertools.product(spans, repeat=many):
                self.assertEqual(cover_of(list(row)), cover_from(places(row)), row)

    def test_the_empty_list(self):
        self.assertEqual(cover_of([]), [])

    def test_spans_that_touch_are_joined(self):
        self.assertEqual(cover_of([(5, 9), (0, 5)]), [(0, 9)])
        self.assertEqual(cover_of([(6, 9), (0, 5)]), [(0, 5), (6, 9)])

    def test_the_same_span_twice(self):
        self.assertEqual(cover_of([(1, 4), (1, 4)]), [(1, 4)])

    def test_a_span_within_another_one_does_not_shorten_it(self):
        self.assertEqual(cover_of([(0, 9), (2, 3), (8, 12)]), [(0, 12)])

    def test_of_twelve_figures(self):
        self.assertEqual(cover_of([(0, GREATEST), (LEAST, 0)]), [LINE])
        ends = [(GREATEST - 1, GREATEST), (LEAST, LEAST + 1)]
        self.assertEqual(cover_of(ends), [(LEAST, LEAST + 1), (GREATEST - 1, GREATEST)])

    def test_sixty_spans_and_more(self):
        for many in (60, 61, 250):
            self.assertEqual(cover_of(steps(many)[::-1]), steps(many))
            self.assertEqual(cover_of(steps(many, length=3)), [(0, 3 * many)])

    def test_refuses_what_is_no_span(self):
        for wrong in NO_SPANS:
            self.assert_refused(NoSpan, cover_of, [wrong])
            self.assert_refused(NoSpan, cover_of, [(0, 1), wrong])
            self.assert_refused(NoSpan, cover_of, [wrong, (0, 1)])

    def test_refuses_no_list_of_spans_for_being_no_cover(self):
        told = [cover_of(spans) for spans in NO_COVERS]
        self.assertEqual(told, [
            [(0, 4)],
            [(0, 4)],
            [(0, 9)],
            [(0, 2)],
            [(0, 1), (5, 6)],
            [(0, 1), (2, 3), (5, 6)],
            [(0, 1), (3, 5)],
            [LINE],
        ])


class TwoCoversTest(CoverTestCase):
    def test_every_two_small_covers(self):
        for one, other in itertools.product(list(all_small_covers()), repeat=2):
            here, there = places(one), places(other)
            self.assertEqual(both(one, other), cover_from(here & there), (one, other))
            self.assertEqual(either(one, other), cover_from(here | there), (one, other))
            self.assertEqual(less(one, other), cover_from(here - there), (one, other))

    def test_a_cover_with_itself(self):
        for cover in [[], [LINE], [(0, 2), (5, 9)], steps(200)]:
            self.assertEqual(both(cover, cover), cover)
            self.assertEqual(either(cover, cover), cover)
            self.assertEqual(less(cover, cover), [])

    def test_the_empty_cover(self):
        cover = [(0, 2), (5, 9)]
        self.assertEqual([both([], cover), either([], cover), less([], cover)], [[], cover, []])
        self.assertEqual([both(cover, []), either(cover, []), less(cover, [])], [[], cover, cover])
        self.assertEqual([both([], []), either([], []), less([], [])], [[], [], []])

    def test_covers_that_touch(self):
        one, other = [(0, 5)], [(5, 9)]
        self.assertEqual([both(one, other), either(one, other), less(one, other)], [[], [(0, 9)], one])
        self.assertEqual([both(other, one), either(other, one), less(other, one)], [[], [(0, 9)], other])

    def test_of_twelve_figures(self):
        ends = [(LEAST, LEAST + 1), (GREATEST - 1, GREATEST)]
        self.assertEqual(both([LINE], ends), ends)
        self.assertEqual(either([LINE], ends), [LINE])
        self.assertEqual(less([LINE], ends), [(LEAST + 1, GREATEST - 1)])
        self.assertEqual(less([LINE], []), [LINE])
        self.assertEqual(less([LINE], [(-1, 1)]), [(LEAST, -1), (1, GREATEST)])
        self.assertEqual(less(ends, [(0, 1)]), ends)
        self.assertEqual(less(ends, [LINE]), [])

    def test_two_hundred_spans_may_be_told_as_more(self):
        one, other = steps(200, step=20, length=12), steps(200, low=10, step=20, length=12)
        here, there = places(one), places(other)
        self.assertEqual(both(one, other), cover_from(here & there))
        self.assertEqual(len(both(one, other)), 399)
        self.assertEqual(either(steps(200, step=4), steps(200, low=2, step=4)), steps(400, step=2))
        self.assertEqual(less([(-9, 1000)], steps(200)), cover_from(set(range(-9, 1000)) - places(steps(200))))
        self.assertEqual(len(less([(-9, 1000)], steps(200))), 201)

    def test_what_is_told_and_has_more_is_no_cover_to_be_handed_in(self):
        told = less([(-9, 1000)], steps(200))
        self.assert_refused(NoCover, held, told)
        for ask in OF_TWO:
            self.assert_refused(NoCover, ask, told, [])
            self.assert_refused(NoCover, ask, [], told)

    def test_refuse_what_is_no_span(self):
        for ask, wrong in itertools.product(OF_TWO, NO_SPANS):
            self.assert_refused(NoSpan, ask, [wrong], [])
            self.assert_refused(NoSpan, ask, [], [wrong])
            self.assert_refused(NoSpan, ask, [(-9, -8), wrong], [(0, 1)])
            self.assert_refused(NoSpan, ask, [(0, 1)], [(-9, -8), wrong])

    def test_refuse_what_is_no_cover(self):
        for ask, wrong in itertools.product(OF_TWO, NO_COVERS + [steps(201)]):
            self.assert_refused(NoCover, ask, wrong, [])
            self.assert_refused(NoCover, ask, [], wrong)
            self.assert_refused(NoCover, ask, wrong, wrong)

    def test_no_span_goes_ahead_of_no_cover(self):
        for ask, wrong in itertools.product(OF_TWO, NO_COVERS + [steps(201)]):
            self.assert_refused(NoSpan, ask, wrong + [(3, 3)], [])
            self.assert_refused(NoSpan, ask, [(3, 3)] + wrong, [])
            self.assert_refused(NoSpan, ask, [], wrong + [(3, 3)])

    def test_the_first_cover_is_looked_at_ahead_of_the_second(self):
        for ask, wrong in itertools.product(OF_TWO, NO_COVERS + [steps(201)]):
            self.assert_refused(NoCover, ask, wrong, [(3, 3)])
            self.assert_refused(NoSpan, ask, [(3, 3)], wrong)
            self.assert_refused(NoCover, ask, wrong, wrong + [(3, 3)])


class HeldTest(CoverTestCase):
    def test_every_small_cover(self):
        for cover in all_small_covers():
            self.assertEqual(held(cover), len(places(cover)), cover)

    def test_of_none_of_the_line_and_of_two_hundred(self):
        self.assertEqual(held([]), 0)
        self.assertEqual(held([LINE]), 2 * GREATEST)
        self.assertEqual(held(steps(200, length=2)), 400)

    def test_refuses_no_span_then_no_cover(self):
        for wrong in NO_SPANS:
            self.assert_refused(NoSpan, held, [wrong])
        for wrong in NO_COVERS + [steps(201)]:
            self.assert_refused(NoCover, held, wrong)
            self.assert_refused(NoSpan, held, wrong + [(3, 3)])
            self.assert_refused(NoSpan, held, [(3, 3)] + wrong)


class OwnTest(unittest.TestCase):
    """Point 2: what is handed in stays as it was, and what is told is the asker's own."""

    def test_lists_handed_in_stay_as_they_were(self):
        spans = [(5, 9), (0, 5), (7, 8), (5, 9)]
        cover_of(spans)
        self.assertEqual(spans, [(5, 9), (0, 5), (7, 8), (5, 9)])
        for ask in OF_TWO:
            one, other = [(0, 4), (6, 9)], [(2, 7)]
            ask(one, other)
            self.assertEqual((one, other), ([(0, 4), (6, 9)], [(2, 7)]))
        cover = [(0, 4), (6, 9)]
        held(cover)
        self.assertEqual(cover, [(0, 4), (6, 9)])

    def test_what_is_told_is_never_the_list_handed_in(self):
        cover = [(0, 4), (6, 9)]
        told = [cover_of(cover), both(cover, cover), either(cover, cover), either(cover, []), either([], cover),
                less(cover, [])]
        for one in told:
            self.assertEqual(one, cover)
            one.append((90, 91))
            self.assertEqual(cover, [(0, 4), (6, 9)])
        nothing = []
        for one in [cover_of(nothing), both(nothing, cover), either(nothing, nothing), less(nothing, cover)]:
            one.append((90, 91))
            self.assertEqual(nothing, [])

    def test_changing_what_was_told_changes_no_later_answer(self):
        one, other = [(0, 4), (6, 9)], [(2, 7)]
        for ask in OF_TWO + [lambda first, second: cover_of(first + second)]:
            for pair in [(one, other), ([], [])]:
                told = ask(*pair)
                kept = list(told)
                told.append((90, 91))
                self.assertEqual(ask(*pair), kept)
                told.clear()
                self.assertEqual(ask(*pair), kept)

    def test_a_list_changed_behind_changes_nothing_told(self):
        for ask in OF_TWO:
            one, other = [(0, 4), (6, 9)], [(2, 7)]
            told = ask(one, other)
            kept = list(told)
            one.clear()
            other.append((20, 21))
            self.assertEqual(told, kept)
        spans = [(0, 4), (6, 9)]
        told = cover_of(spans)
        spans.append((20, 21))
        self.assertEqual(told, [(0, 4), (6, 9)])

    def test_a_refusal_between_changes_no_answer(self):
        one, other = [(0, 4), (6, 9)], [(2, 7)]
        for ask in OF_TWO:
            told = ask(one, other)
            with self.assertRaises(NoCover):
                ask(one, [(0, 2), (1, 3)])
            self.assertEqual(ask(one, other), told)

    def test_spans_told_are_tuples_in_lists(self):
        one, other = [(0, 4), (6, 9)], [(2, 7)]
        for told in [cover_of(one), both(one, other), either(one, other), less(one, other)]:
            self.assertIs(told.__class__, list)
            self.assertEqual({span.__class__ for span in told}, {tuple})
        self.assertIs(held([]).__class__, int)


if __name__ == "__main__":
    unittest.main()
