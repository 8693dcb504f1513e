"""Points 2, 4 and 6: the depth at a place, the profile, the deepest."""

import unittest

from helper import (
    AskCase,
    GREATEST,
    LEAST,
    LINE,
    NAMED_LISTS,
    NO_PLACES,
    NO_SPANS,
    SIXTY_NESTED,
    SIXTY_OF_TWELVE_FIGURES,
    SIXTY_STAIRS,
    SIXTY_TOUCHING,
    chance_lists,
    slow_depth,
    small_lists,
    soon,
)
from spanshelf.depths import deepest, depth_at, profile
from spanshelf.errors import NoPlace, NoSpan


def slow_profile(spans, low, high):
    """Build the profile one place after another."""
    layers = []
    for place in range(low, high):
        depth = slow_depth(spans, place)
        if depth == 0:
            continue
        if layers and layers[-1][1] == place and layers[-1][2] == depth:
            layers[-1] = (layers[-1][0], place + 1, depth)
        else:
            layers.append((place, place + 1, depth))
    return layers


def slow_deepest(spans, low, high):
    best = None
    for place in range(low, high):
        depth = slow_depth(spans, place)
        if depth > 0 and (best is None or depth > best[0]):
            best = (depth, place)
    return best


class DepthAtTest(AskCase):
    def test_every_place_of_small_lists(self):
        for spans in small_lists():
            for place in range(-1, 6):
                self.assertEqual(depth_at(spans, place), slow_depth(spans, place), (spans, place))

    def test_a_span_holds_its_low_and_not_its_high(self):
        self.assertEqual([depth_at([(3, 5)], place) for place in range(2, 7)], [0, 1, 1, 0, 0])

    def test_spans_that_touch(self):
        self.assertEqual([depth_at([(0, 5), (5, 9)], place) for place in (4, 5, 8, 9)], [1, 1, 1, 0])

    def test_the_empty_list(self):
        for place in (0, GREATEST, LEAST):
            told = depth_at([], place)
            self.assertEqual(told, 0)
            self.assertIs(told.__class__, int)

    def test_the_same_span_several_times(self):
        self.assertEqual(depth_at([(2, 4)] * 7, 3), 7)
        self.assertEqual(depth_at([LINE] * 60, 0), 60)

    def test_the_ends_of_the_line(self):
        spans = NAMED_LISTS["ends of the line"]
        asked = [LEAST, LEAST + 1, -1, 0, GREATEST - 1, GREATEST]
        self.assertEqual([depth_at(spans, place) for place in asked], [3, 2, 2, 2, 3, 0])

    def test_refuses_no_span_at_any_place_of_the_list(self):
        for wrong in NO_SPANS:
            for spans in ([wrong], [wrong, (0, 1), (2, 3)], [(0, 1), wrong, (2, 3)], [(0, 1), (2, 3), wrong]):
                self.assert_refused(NoSpan, depth_at, spans, 0)

    def test_refuses_no_place_behind_no_span(self):
        for place in NO_PLACES:
            self.assert_refused(NoPlace, depth_at, [], place)
            self.assert_refused(NoPlace, depth_at, [(0, 1), LINE], place)
            self.assert_refused(NoSpan, depth_at, [(0, 1), (3, 3)], place)
            self.assert_refused(NoSpan, depth_at, [(-10 ** 29, 0)], place)

    def test_truths_are_no_places(self):
        for truth in (True, False):
            self.assert_refused(NoPlace, depth_at, [(0, 5)], truth)


class ProfileTest(AskCase):
    def test_small_lists_place_by_place(self):
        for spans in small_lists():
            self.assertEqual(profile(spans), slow_profile(spans, -1, 6), spans)

    def test_ordinary(self):
        self.assertEqual(profile([(0, 5), (3, 9), (12, 14)]), [(0, 3, 1), (3, 5, 2), (5, 9, 1), (12, 14, 1)])

    def test_where_one_ends_and_one_begins_the_depth_goes_on(self):
        self.assertEqual(profile([(5, 9), (0, 5)]), [(0, 9, 1)])
        self.assertEqual(profile([(0, 20), (3, 5), (5, 9)]), [(0, 3, 1), (3, 9, 2), (9, 20, 1)])
        self.assertEqual(profile([(0, 5), (0, 5), (5, 9)]), [(0, 5, 2), (5, 9, 1)])

    def test_a_gap_is_left_out(self):
        self.assertEqual(profile([(7, 8), (0, 5)]), [(0, 5, 1), (7, 8, 1)])
        self.assertEqual(profile([(6, 8), (0, 5)]), [(0, 5, 1), (6, 8, 1)])

    def test_the_empty_list_and_the_same_span_several_times(self):
        self.assertEqual(profile([]), [])
        self.assertEqual(profile([(-4, 2)]), [(-4, 2, 1)])
        self.assertEqual(profile([(-4, 2)] * 6), [(-4, 2, 6)])

    def test_of_twelve_figures(self):
        self.assertEqual(profile([LINE] * 60), [(LEAST, GREATEST, 60)])
        self.assertEqual(profile(NAMED_LISTS["ends of the line"]), [
            (LEAST, LEAST + 1, 3),
            (LEAST + 1, GREATEST - 1, 2),
            (GREATEST - 1, GREATEST, 3),
        ])

    def test_sixty(self):
        self.assertEqual(profile(SIXTY_STAIRS), slow_profile(SIXTY_STAIRS, -1, 600))
        self.assertEqual(profile(SIXTY_NESTED), slow_profile(SIXTY_NESTED, -70, 70))
        self.assertEqual(profile(SIXTY_TOUCHING), [(0, 60, 1)])

    def test_sixty_of_twelve_figures_agree_with_the_depth_at_each_end(self):
        for spans in [SIXTY_OF_TWELVE_FIGURES] + list(chance_lists(61, 80)):
            with soon():
                layers = profile(spans)
            self.assertEqual(sum((high - low) * depth for low, high, depth in layers),
                             sum(high - low for low, high in spans))
            for low, high, depth in layers:
                self.assertLess(low, high)
                self.assertEqual({slow_depth(spans, place) for place in (low, high - 1)}, {depth})
            for ahead, behind in zip(layers, layers[1:]):
                self.assertLessEqual(ahead[1], behind[0])
                self.assertFalse(ahead[1] == behind[0] and ahead[2] == behind[2])

    def test_kinds(self):
        told = profile([(0, 5), (3, 9)])
        self.assertIs(told.__class__, list)
        self.assertEqual({layer.__class__ for layer in told}, {tuple})

    def test_refuses_no_span_at_any_place_of_the_list(self):
        for wrong in NO_SPANS:
            for ask in (profile, deepest):
                for spans in ([wrong], [wrong, (0, 1)], [(0, 1), wrong, (2, 3)], [(0, 1), wrong]):
                    self.assert_refused(NoSpan, ask, spans)


class DeepestTest(AskCase):
    def test_small_lists_place_by_place(self):
        for spans in small_lists():
            self.assertEqual(deepest(spans), slow_deepest(spans, -1, 6), spans)

    def test_none_where_there_is_no_span(self):
        self.assertIsNone(deepest([]))

    def test_the_least_place_of_several(self):
        self.assertEqual(deepest([(10, 12), (0, 5), (11, 20), (3, 6)]), (2, 3))
        self.assertEqual(deepest([(10, 12), (-4, 5)]), (1, -4))
        self.assertEqual(deepest([(5, 9), (0, 5)]), (1, 0))

    def test_a_depth_that_goes_on_over_an_end(self):
        self.assertEqual(deepest([(0, 5), (5, 9), (2, 7)]), (2, 2))

    def test_of_twelve_figures(self):
        self.assertEqual(deepest([LINE] * 60), (60, LEAST))
        self.assertEqual(deepest([LINE, (GREATEST - 1, GREATEST)]), (2, GREATEST - 1))
        self.assertEqual(deepest([(LEAST, LEAST + 1)]), (1, LEAST))

    def test_sixty(self):
        self.assertEqual(deepest(SIXTY_NESTED), (60, -1))
        self.assertEqual(deepest(SIXTY_TOUCHING), (1, 0))
        self.assertEqual(deepest(SIXTY_STAIRS), slow_deepest(SIXTY_STAIRS, -1, 600))
        for spans in chance_lists(62, 80):
            with soon():
                depth, place = deepest(spans)
            self.assertEqual(slow_depth(spans, place), depth)
            for low, high in spans:
                self.assertLessEqual((-depth, place), (-slow_depth(spans, low), low))

    def test_kinds(self):
        self.assertIs(deepest([(0, 1)]).__class__, tuple)


class OwnTest(AskCase):
    def test_nothing_handed_in_changes_and_what_is_told_is_the_askers_own(self):
        for spans in NAMED_LISTS.values():
            self.assert_own(profile, list(spans))
            before = list(spans)
            told = [deepest(before), depth_at(before, 5)]
            self.assertEqual(before, spans)
            before.append(LINE)
            self.assertEqual([deepest(spans), depth_at(spans, 5)], told)

    def test_a_refusal_between_changes_no_answer(self):
        spans = [(0, 5), (3, 9)]
        told = [profile(spans), deepest(spans), depth_at(spans, 4)]
        self.assert_refused(NoSpan, profile, [(0, 5), (3, 3)])
        self.assert_refused(NoSpan, deepest, [(0, 5), (3, 3)])
        self.assert_refused(NoPlace, depth_at, spans, GREATEST + 1)
        self.assertEqual([profile(spans), deepest(spans), depth_at(spans, 4)], told)


if __name__ == "__main__":
    unittest.main()
