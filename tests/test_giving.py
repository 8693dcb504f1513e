"""Points 2, 3, 4, 11 and 12: places of their own, windows that ask too much, the looker, and the heaviest giving."""

import itertools
import random
import unittest

from helper import (
    AskCase,
    FAR,
    GREATEST,
    HEAVIEST,
    LEAST,
    LINE,
    NAMED_LISTS,
    NO_SPANS,
    NO_WEIGHTS_OF_TWO,
    SIXTY_NESTED,
    SIXTY_OF_TWELVE_FIGURES,
    SIXTY_STAIRS,
    SIXTY_TOUCHING,
    any_two_apart,
    are_rising,
    chance_lists,
    chance_weights,
    holds,
    places,
    small_lists,
    soon,
    spans_up_to,
    with_wrong_span,
)
from spanshelf.errors import NoSpan, NoWeight
from spanshelf.giving import giving, heaviest_giving, shows_giving


def is_slow_giving(spans, given):
    taken = [place for place in given if place is not None]
    if len(given) != len(spans) or len(set(taken)) != len(taken):
        return False
    return all(place is None or holds(span, place) for span, place in zip(spans, given))


def are_slow_windows(windows):
    return all(LEAST <= low < high <= GREATEST for low, high in windows) and any_two_apart(windows)


def slow_asked(spans, windows):
    total = 0
    for low, high in windows:
        total += len([span for span in spans if low <= span[0] and span[1] <= high])
        total -= high - low
    return total


def slow_shows(spans, given, windows):
    """Say the document's words one by one."""
    if not is_slow_giving(spans, given) or not are_slow_windows(windows):
        return False
    return len([place for place in given if place is None]) == slow_asked(spans, windows)


def all_givings(spans):
    """Give every giving: of each span one of its places that no span ahead has, or None."""
    if not spans:
        yield []
        return
    for ahead in all_givings(spans[:-1]):
        yield ahead + [None]
        for place in places(spans[-1]) - set(ahead):
            yield ahead + [place]


class GivingTest(AskCase):
    def assert_told_right(self, spans):
        """Tell how many have a place."""
        with soon():
            told = giving(spans)
        about = (spans, told)
        self.assertIs(told.__class__, tuple)
        given, windows = told
        self.assertEqual({given.__class__, windows.__class__}, {list})
        self.assertTrue(all(window.__class__ is tuple for window in windows), about)
        self.assertTrue(are_rising(windows), about)
        self.assertLessEqual(len(windows), 60)
        self.assertTrue(slow_shows(spans, given, windows), about)
        self.assert_truth(True, shows_giving(spans, given, windows), about)
        return len(spans) - given.count(None)

    def test_small_lists_and_nothing_better_by_all_givings(self):
        for spans in small_lists():
            told = self.assert_told_right(spans)
            if len(spans) < 5:
                most = max(len(spans) - given.count(None) for given in all_givings(spans))
                self.assertEqual(told, most, spans)

    def test_five_in_three_places_and_nothing_better_by_all_givings(self):
        for row in itertools.combinations_with_replacement(spans_up_to(3), 5):
            spans = list(row)[::-1]
            most = max(len(spans) - given.count(None) for given in all_givings(spans))
            self.assertEqual(self.assert_told_right(spans), most, spans)

    def test_named_lists_and_lists_by_chance(self):
        for spans in list(NAMED_LISTS.values()) + list(chance_lists(112, 150)):
            self.assertEqual(self.assert_told_right(spans), self.assert_told_right(spans[::-1]))

    def test_narrow_lists_by_chance(self):
        chance = random.Random(113)
        windows_seen = set()
        for turn in range(150):
            wide = chance.randint(5, 60)
            spans = [chance.choice(spans_up_to(wide)[::chance.choice([1, 2, 3])]) for at in range(60)]
            spans = [(low, min(high, low + chance.choice([1, 2, 9, 99]))) for low, high in spans]
            self.assert_told_right(spans)
            windows_seen.add(len(giving(spans)[1]))
        self.assertGreater(max(windows_seen), 3)

    def test_the_empty_list(self):
        self.assertEqual(giving([]), ([], []))

    def test_one_span(self):
        given, windows = giving([(4, 9)])
        self.assertTrue(holds((4, 9), given[0]))
        self.assertEqual(windows, [])
        self.assertEqual(giving([(4, 5)]), ([4], []))
        self.assertEqual(self.assert_told_right([LINE]), 1)

    def test_how_many(self):
        wanted = {
            "none": 0,
            "one": 1,
            "the same five times": 5,
            "two that touch": 2,
            "twice two that touch": 4,
            "ends of the line": 5,
            "sixty stairs": 60,
            "sixty nested": 60,
            "sixty touching": 60,
            "sixty of twelve figures": 60,
            "sixty times the line": 60,
        }
        for name, many in wanted.items():
            self.assertEqual(self.assert_told_right(NAMED_LISTS[name]), many, name)

    def test_the_same_span_more_often_than_it_has_places(self):
        for many in (1, 2, 3, 4, 5, 60):
            self.assertEqual(self.assert_told_right([(7, 10)] * many), min(many, 3))
        given, windows = giving([(7, 10)] * 5)
        self.assertEqual(windows, [(7, 10)])
        self.assertEqual(sorted([place for place in given if place is not None]), [7, 8, 9])

    def test_many_windows(self):
        spans = [(3 * k, 3 * k + 1) for k in range(30)] * 2
        self.assertEqual(self.assert_told_right(spans), 30)
        self.assertEqual(len(giving(spans)[1]), 30)
        touching = [(k, k + 1) for k in range(30)] * 2
        self.assertEqual(self.assert_told_right(touching), 30)

    def test_a_long_span_gives_way_to_a_short_one(self):
        self.assertEqual(self.assert_told_right([(0, 2), (0, 1)]), 2)
        self.assertEqual(self.assert_told_right([(0, 3), (0, 1), (1, 2)]), 3)
        self.assertEqual(self.assert_told_right([(0, 3), (0, 3), (0, 1), (1, 2)]), 3)
        self.assertEqual(self.assert_told_right([(0, 9), (4, 5), (5, 6), (4, 6), (3, 7)]), 4)

    def test_at_the_ends_of_the_line(self):
        last, first = (GREATEST - 1, GREATEST), (LEAST, LEAST + 1)
        self.assertEqual(self.assert_told_right([last, first, LINE, last]), 3)
        self.assertEqual(self.assert_told_right([last] * 30 + [first] * 30), 2)

    def test_refuses_no_span_at_any_place_of_the_list(self):
        for wrong in NO_SPANS:
            for spans in with_wrong_span(wrong):
                self.assert_refused(NoSpan, giving, spans)

    def test_own(self):
        for spans in list(NAMED_LISTS.values()) + [[(7, 10)] * 5]:
            self.assert_own(giving, list(spans))

    def test_a_refusal_between_changes_no_answer(self):
        told = giving(SIXTY_STAIRS)
        self.assert_refused(NoSpan, giving, SIXTY_STAIRS + [(1, 1)])
        self.assertEqual(giving(SIXTY_STAIRS), told)


class ShowsGivingTest(AskCase):
    def test_every_small_paper(self):
        spans_of_all = [list(row) for many in range(4)
                        for row in itertools.combinations_with_replacement(spans_up_to(2), many)]
        givens = [list(row) for many in range(5) for row in itertools.product([None, -1, 0, 1, 2], repeat=many)]
        singles = spans_up_to(3) + [(0, 0), (2, 1)]
        windows_of_all = [list(row) for many in range(3) for row in itertools.product(singles, repeat=many)]
        let_by = 0
        for spans in spans_of_all:
            for given in givens:
                if abs(len(given) - len(spans)) > 1:
                    continue
                for windows in windows_of_all:
                    wanted = slow_shows(spans, given, windows)
                    let_by += wanted
                    self.assert_truth(wanted, shows_giving(spans, given, windows), (spans, given, windows))
        self.assertGreater(let_by, 50)

    def test_right_papers_with_windows_in_other_orders(self):
        spans = [(0, 1), (0, 1), (4, 5), (4, 5), (4, 5), (8, 9), (8, 9)]
        given = [None, 0, 4, None, None, 8, None]
        for windows in itertools.permutations([(0, 1), (4, 5), (8, 9)]):
            self.assert_truth(True, shows_giving(spans, given, list(windows)))
        chance = random.Random(114)
        for spans in chance_lists(115, 60):
            given, windows = giving(spans)
            chance.shuffle(windows)
            self.assert_truth(True, shows_giving(spans, given, windows))

    def test_right_papers_that_are_not_the_ones_told(self):
        spans = [(0, 2), (0, 2), (0, 2)]
        for given in itertools.permutations([0, 1, None]):
            self.assert_truth(True, shows_giving(spans, list(given), [(0, 2)]), given)
        # Windows may ask for just what they hold, and two that touch are apart.
        self.assert_truth(True, shows_giving([(0, 1), (1, 2)], [0, 1], [(0, 1), (1, 2)]))
        self.assert_truth(True, shows_giving([(0, 1), (1, 2)], [0, 1], [(0, 2)]))
        self.assert_truth(True, shows_giving([(0, 1), (1, 2)], [0, 1], []))

    def test_a_window_that_asks_for_less_than_it_holds_counts_below_nought(self):
        spans, given = [(0, 1), (0, 1), (0, 1)], [0, None, None]
        self.assert_truth(True, shows_giving(spans, given, [(0, 1)]))
        self.assert_truth(False, shows_giving(spans, given, [(0, 1), (4, 5)]))
        self.assert_truth(False, shows_giving(spans, given, [(0, 2)]))
        self.assert_truth(False, shows_giving([(0, 1)], [0], [(4, 5)]))
        # One asks for one too many, the other for one too few: together for none too many.
        self.assert_truth(True, shows_giving([(0, 1), (0, 1)], [0, None], [(0, 1)]))
        self.assert_truth(False, shows_giving([(0, 1), (0, 1)], [0, None], [(0, 1), (7, 8)]))
        self.assert_truth(True, shows_giving([(0, 2), (0, 2)], [1, 0], [(0, 2)]))
        self.assert_truth(True, shows_giving([(0, 3), (0, 3)], [1, 0], []))
        self.assert_truth(False, shows_giving([(0, 3), (0, 3)], [1, 0], [(0, 3)]))

    def test_a_place_given_twice(self):
        self.assert_truth(True, shows_giving([(0, 5), (3, 9)], [3, 4], []))
        self.assert_truth(False, shows_giving([(0, 5), (3, 9)], [4, 4], []))
        self.assert_truth(False, shows_giving([(0, 5), (3, 9), (0, 9)], [4, 5, 4], []))
        self.assert_truth(True, shows_giving([(0, 1)] * 4, [None, None, 0, None], [(0, 1)]))

    def test_a_place_that_its_span_does_not_hold(self):
        for place in (0, 4):
            self.assert_truth(True, shows_giving([(0, 5), (7, 9)], [place, 7], []), place)
        for place in (-1, 5, 6, 8, GREATEST, GREATEST + 1, LEAST - 1, FAR, -FAR):
            self.assert_truth(False, shows_giving([(0, 5), (7, 9)], [place, 7], []), place)
        self.assert_truth(False, shows_giving([(0, 5), (7, 9)], [7, 0], []))

    def test_too_few_and_too_many(self):
        spans = [(0, 5), (3, 9)]
        for given in ([], [0], [3], [0, 3, 4], [0, 3, None], [None], [None, None, None]):
            self.assert_truth(False, shows_giving(spans, given, []), given)
        self.assert_truth(False, shows_giving([(0, 1), (0, 1)], [0], [(0, 1)]))
        self.assert_truth(False, shows_giving([(0, 1), (0, 1)], [0, None, None], [(0, 1)]))

    def test_numbers_that_differ_by_one(self):
        spans = [(0, 2)] * 4
        self.assert_truth(True, shows_giving(spans, [0, 1, None, None], [(0, 2)]))
        self.assert_truth(False, shows_giving(spans, [0, None, None, None], [(0, 2)]))
        self.assert_truth(False, shows_giving(spans, [0, 1, None, None], [(0, 3)]))
        self.assert_truth(False, shows_giving(spans, [0, 1, None, None], [(-1, 2)]))
        self.assert_truth(False, shows_giving(spans, [0, 1, None, None], []))
        self.assert_truth(False, shows_giving(spans, [0, 1, None, None], [(0, 1)]))
        self.assert_truth(False, shows_giving([(0, 5)], [None], []))

    def test_windows_that_meet(self):
        spans, given = [(0, 1)] * 3, [0, None, None]
        self.assert_truth(True, shows_giving(spans, given, [(0, 1)]))
        # Each asks for one too many, and without this both together would be counted.
        self.assert_truth(False, shows_giving(spans, given, [(0, 2), (-1, 1)]))
        self.assert_truth(False, shows_giving([(0, 1)] * 2, [None, None], [(0, 1), (0, 1)]))
        self.assert_truth(False, shows_giving([(0, 2)] * 3, [0, None, None], [(0, 2), (0, 2)]))
        self.assert_truth(False, shows_giving([(0, 9)] * 10, [None] * 2 + list(range(8)), [(0, 9), (0, 9)]))
        self.assert_truth(False, shows_giving([], [], [(0, 1), (0, 1)]))

    def test_windows_that_are_no_spans(self):
        for wrong in NO_SPANS:
            self.assert_truth(False, shows_giving([(0, 1), (0, 1)], [0, None], [(0, 1), wrong]), wrong)
            self.assert_truth(False, shows_giving([(0, 1), (0, 1)], [0, None], [wrong]), wrong)
            self.assert_truth(False, shows_giving([(0, 1)], [0], [wrong]), wrong)
            self.assert_truth(False, shows_giving([], [], [wrong]), wrong)
        # An empty window would ask for nothing, a turned one, with a length below nought, for one too many.
        self.assert_truth(False, shows_giving([(0, 1)], [None], [(4, 3)]))
        self.assert_truth(False, shows_giving([(0, 1)], [0], [(3, 3)]))

    def test_windows_far_beyond_all_places(self):
        for window in ((FAR - 1, FAR), (-FAR, FAR), (-FAR, 1 - FAR), (GREATEST, GREATEST + 1), (LEAST - 1, LEAST)):
            self.assert_truth(False, shows_giving([(0, 1), (0, 1)], [0, None], [(0, 1), window]), window)
            self.assert_truth(False, shows_giving([(0, 1), (0, 1)], [0, None], [window]), window)
        self.assert_truth(False, shows_giving([(0, 1), (0, 1)], [0, None], [LINE]))

    def test_empty_lists(self):
        self.assert_truth(True, shows_giving([], [], []))
        self.assert_truth(False, shows_giving([], [None], []))
        self.assert_truth(False, shows_giving([], [0], []))
        self.assert_truth(False, shows_giving([], [], [(0, 1)]))
        self.assert_truth(False, shows_giving([(0, 1)], [], []))
        self.assert_truth(True, shows_giving([(0, 1)], [0], []))

    def test_lists_of_two_hundred(self):
        with soon():
            self.assert_truth(False, shows_giving(SIXTY_STAIRS, [None] * 200, []))
            self.assert_truth(False, shows_giving(SIXTY_STAIRS, list(range(200)), [(0, 1)] * 200))
            self.assert_truth(False, shows_giving([], [FAR] * 200, [(FAR, -FAR)] * 200))
            windows = [(k, k + 1) for k in range(200)]
            self.assert_truth(False, shows_giving(SIXTY_TOUCHING, list(range(60))[::-1], windows))
            self.assert_truth(True, shows_giving(SIXTY_TOUCHING, list(range(60))[::-1], windows[:60]))
            self.assert_truth(True, shows_giving([(0, 1)] * 60, [None] * 59 + [0], [(0, 1)]))

    def test_what_was_told_with_one_thing_changed(self):
        chance = random.Random(116)
        for turn in range(40):
            spans = [chance.choice(spans_up_to(9)) for at in range(chance.choice([3, 12, 30]))]
            given, windows = giving(spans)
            self.assert_truth(False, shows_giving(spans, given + [None], windows))
            self.assert_truth(False, shows_giving(spans, given[:-1], windows))
            for at in range(len(given)):
                for other in (None, 0, 4, 8, FAR):
                    changed = given[:at] + [other] + given[at + 1:]
                    self.assert_truth(slow_shows(spans, changed, windows), shows_giving(spans, changed, windows))
            for at, (low, high) in enumerate(windows):
                for other in ([], [(low, high + 1)], [(low - 1, high)], [(high, low)], [(low, high)] * 2):
                    changed = windows[:at] + other + windows[at + 1:]
                    self.assert_truth(slow_shows(spans, given, changed), shows_giving(spans, given, changed))

    def test_refuses_no_span_whatever_the_paper(self):
        for wrong in NO_SPANS:
            for spans in with_wrong_span(wrong):
                for given, windows in (([], []), ([None], [(0, 1)]), ([0, FAR], [(FAR, -FAR)]), ([None] * 3, [wrong])):
                    self.assert_refused(NoSpan, shows_giving, spans, given, windows)

    def test_nothing_handed_in_changes(self):
        self.assert_own(shows_giving, [(4, 5), (4, 5), (0, 1), (0, 1)], [4, None, None, 0], [(4, 5), (0, 1)])


class HeaviestGivingTest(AskCase):
    def assert_told_right(self, spans, weights):
        with soon():
            told = heaviest_giving(spans, weights)
        about = (spans, weights, told)
        self.assertIs(told.__class__, tuple)
        given, weight = told
        self.assertEqual((given.__class__, weight.__class__), (list, int))
        self.assertTrue(is_slow_giving(spans, given), about)
        self.assertEqual(weight, self.weight_of(weights, given), about)
        return weight

    def weight_of(self, weights, given):
        return sum(weight for weight, place in zip(weights, given) if place is not None)

    def slow_heaviest(self, spans, weights):
        return max(self.weight_of(weights, given) for given in all_givings(spans))

    def test_small_lists_with_all_small_weights_and_nothing_better_by_all_givings(self):
        for many in range(4):
            for row in itertools.product(spans_up_to(2), repeat=many):
                for weights in itertools.product(range(3), repeat=many):
                    told = self.assert_told_right(list(row), list(weights))
                    self.assertEqual(told, self.slow_heaviest(row, weights), (row, weights))

    def test_small_lists_with_weights_by_chance_and_nothing_better_by_all_givings(self):
        chance = random.Random(117)
        for spans in small_lists():
            weights = chance_weights(chance, len(spans))
            told = self.assert_told_right(spans, weights)
            if len(spans) < 5:
                self.assertEqual(told, self.slow_heaviest(spans, weights), (spans, weights))

    def test_five_in_three_places_and_nothing_better_by_all_givings(self):
        chance = random.Random(118)
        for row in itertools.combinations_with_replacement(spans_up_to(3), 5):
            spans = list(row)
            weights = [chance.randint(0, 9) for span in spans]
            told = self.assert_told_right(spans, weights)
            self.assertEqual(told, self.slow_heaviest(spans, weights), (spans, weights))

    def test_alike_weights_give_as_many_places_as_giving_does(self):
        for spans in list(NAMED_LISTS.values()) + list(chance_lists(119, 40)):
            many = len(spans) - giving(spans)[0].count(None)
            self.assertEqual(self.assert_told_right(spans, [1] * len(spans)), many)
            self.assertEqual(self.assert_told_right(spans, [HEAVIEST] * len(spans)), many * HEAVIEST)
            self.assertEqual(self.assert_told_right(spans, [0] * len(spans)), 0)

    def test_the_empty_list(self):
        self.assertEqual(heaviest_giving([], []), ([], 0))

    def test_one_span(self):
        self.assertEqual(heaviest_giving([(4, 5)], [7]), ([4], 7))
        self.assertEqual(self.assert_told_right([LINE], [HEAVIEST]), HEAVIEST)

    def test_the_same_span_several_times(self):
        weights = [3, 9, 1, 7, 5]
        self.assertEqual(self.assert_told_right([(4, 6)] * 5, weights), 16)
        given = heaviest_giving([(4, 6)] * 5, weights)[0]
        self.assertEqual([place is None for place in given], [True, False, True, False, True])
        self.assertEqual(self.assert_told_right([(0, 20)] * 60, list(range(60))), sum(range(40, 60)))

    def test_spans_that_only_touch(self):
        self.assertEqual(self.assert_told_right([(1, 2), (0, 1)], [3, 4]), 7)
        self.assertEqual(self.assert_told_right([(1, 2), (0, 1), (1, 2), (0, 1)], [3, 4, 5, 6]), 11)

    def test_a_heavy_one_is_worth_less_than_two_light_ones_only_where_both_have_places(self):
        self.assertEqual(self.assert_told_right([(0, 2), (0, 1), (1, 2)], [5, 3, 3]), 8)
        self.assertEqual(self.assert_told_right([(0, 2), (0, 1), (1, 2)], [2, 3, 3]), 6)
        self.assertEqual(self.assert_told_right([(0, 3), (0, 1), (1, 2)], [2, 3, 3]), 8)

    def test_sixty_spans(self):
        chance = random.Random(120)
        for spans in (SIXTY_OF_TWELVE_FIGURES, SIXTY_STAIRS, SIXTY_NESTED, SIXTY_TOUCHING, [LINE] * 60):
            weights = [chance.randint(0, HEAVIEST) for at in range(60)]
            self.assertEqual(self.assert_told_right(spans, weights), sum(weights))
        last = (GREATEST - 1, GREATEST)
        self.assertEqual(self.assert_told_right([last] * 60, list(range(60))), 59)

    def test_no_exchange_of_one_for_another_is_heavier_in_narrow_lists(self):
        chance = random.Random(121)
        for turn in range(25):
            spans = [chance.choice(spans_up_to(12)) for at in range(30)]
            weights = [chance.randint(0, 20) for span in spans]
            given, weight = heaviest_giving(spans, weights)
            self.assert_told_right(spans, weights)
            chosen = [number for number, place in enumerate(given) if place is not None]
            for out in [None] + chosen:
                kept = [number for number in chosen if number != out]
                for new in range(30):
                    if new not in chosen and weights[new] > (0 if out is None else weights[out]):
                        some = [spans[number] for number in kept + [new]]
                        self.assertIn(None, giving(some)[0], (spans, weights, out, new))

    def test_refuses_no_span_then_no_weight(self):
        for wrong in NO_SPANS:
            for spans in with_wrong_span(wrong):
                self.assert_refused(NoSpan, heaviest_giving, spans, [1] * len(spans))
                for weights in NO_WEIGHTS_OF_TWO:
                    self.assert_refused(NoSpan, heaviest_giving, spans, weights)
        for weights in NO_WEIGHTS_OF_TWO:
            self.assert_refused(NoWeight, heaviest_giving, [(0, 5), (3, 9)], weights)
        self.assert_refused(NoWeight, heaviest_giving, [], [0])
        for weights in ([1] * 59, [1] * 61, [1] * 59 + [-1], [HEAVIEST + 1] + [1] * 59):
            self.assert_refused(NoWeight, heaviest_giving, SIXTY_STAIRS, weights)

    def test_own(self):
        for spans in NAMED_LISTS.values():
            self.assert_own(heaviest_giving, list(spans), [7 * number % 10 for number in range(len(spans))])

    def test_a_refusal_between_changes_no_answer(self):
        told = heaviest_giving(SIXTY_STAIRS, [3] * 60)
        self.assert_refused(NoSpan, heaviest_giving, SIXTY_STAIRS + [(1, 1)], [3] * 61)
        self.assert_refused(NoWeight, heaviest_giving, SIXTY_STAIRS, [3] * 61)
        self.assertEqual(heaviest_giving(SIXTY_STAIRS, [3] * 60), told)


if __name__ == "__main__":
    unittest.main()
