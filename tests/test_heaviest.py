"""Points 2, 3, 4 and 9: the heaviest choice for K, with its prices, and the looker."""

import itertools
import random
import unittest

from helper import (
    AskCase,
    FAR,
    GREATEST,
    HEAVIEST,
    LEAST,
    LINE,
    NAMED_LISTS,
    NO_SPANS,
    NO_WEIGHTS_OF_TWO,
    SIXTY_NESTED,
    SIXTY_OF_TWELVE_FIGURES,
    SIXTY_STAIRS,
    SIXTY_TOUCHING,
    chance_lists,
    chance_weights,
    holds,
    slow_depth,
    small_lists,
    soon,
    spans_up_to,
    subsets,
)
from spanshelf.errors import NoCount, NoSpan, NoWeight
from spanshelf.heaviest import heaviest, shows_heaviest

NO_COUNTS = [0, -1, 21, 22, -20, FAR, -FAR, 10 ** 29]


def is_slow_choice(spans, chosen, k):
    if sorted(set(chosen)) != sorted(chosen) or not set(chosen) <= set(range(len(spans))):
        return False
    picked = [spans[number] for number in chosen]
    return all(slow_depth(picked, place) <= k for span in picked for place in (span[0], span[1] - 1))


def slow_sum(spans, weights, k, prices):
    total = 0
    for place, price in prices:
        total += k * price
    for span, weight in zip(spans, weights):
        own = sum(price for place, price in prices if holds(span, place))
        if weight > own:
            total += weight - own
    return total


def slow_shows(spans, weights, k, chosen, prices):
    """Say the document's words one by one."""
    if not is_slow_choice(spans, chosen, k) or any(price < 0 for place, price in prices):
        return False
    return sum(weights[number] for number in chosen) == slow_sum(spans, weights, k, prices)


def slow_heaviest(spans, weights, k):
    return max(sum(weights[number] for number in chosen)
               for chosen in subsets(len(spans)) if is_slow_choice(spans, chosen, k))


class HeaviestTest(AskCase):
    def assert_told_right(self, spans, weights, k):
        with soon():
            told = heaviest(spans, weights, k)
        about = (spans, weights, k, told)
        self.assertIs(told.__class__, tuple)
        chosen, prices = told
        self.assertEqual({chosen.__class__, prices.__class__}, {list})
        self.assertEqual(sorted(set(chosen)), chosen, about)
        self.assertLessEqual(len(prices), 120)
        self.assertTrue(all(pair.__class__ is tuple and pair[1] >= 1 for pair in prices), about)
        self.assertTrue(all(ahead[0] < behind[0] for ahead, behind in zip(prices, prices[1:])), about)
        self.assertTrue(slow_shows(spans, weights, k, chosen, prices), about)
        self.assert_truth(True, shows_heaviest(spans, weights, k, chosen, prices), about)
        return sum(weights[number] for number in chosen)

    def test_small_lists_with_all_small_weights_and_nothing_better_by_all_choices(self):
        for many in range(4):
            for row in itertools.product(spans_up_to(3), repeat=many):
                spans = list(row)
                for weights in itertools.product(range(3), repeat=many):
                    for k in (1, 2):
                        told = self.assert_told_right(spans, list(weights), k)
                        self.assertEqual(told, slow_heaviest(spans, weights, k), (spans, weights, k))

    def test_small_lists_with_weights_by_chance_and_nothing_better_by_all_choices(self):
        chance = random.Random(91)
        for spans in small_lists():
            weights = chance_weights(chance, len(spans))
            for k in (1, 2, 3, 4):
                told = self.assert_told_right(spans, weights, k)
                self.assertEqual(told, slow_heaviest(spans, weights, k), (spans, weights, k))

    def test_named_lists(self):
        chance = random.Random(92)
        for spans in NAMED_LISTS.values():
            many = len(spans)
            for weights in ([0] * many, [1] * many, [HEAVIEST] * many, list(range(many)), chance_weights(chance, many)):
                for k in (1, 2, 5, 19, 20):
                    self.assert_told_right(spans, weights, k)

    def test_lists_by_chance(self):
        chance = random.Random(93)
        for spans in chance_lists(94, 300):
            self.assert_told_right(spans, chance_weights(chance, len(spans)), chance.choice([1, 2, 3, 4, 7, 20]))

    def test_the_empty_list(self):
        for k in (1, 20):
            self.assertEqual(heaviest([], [], k), ([], []))

    def test_one_span(self):
        chosen, prices = heaviest([(4, 9)], [7], 1)
        self.assertEqual(chosen, [0])
        self.assertEqual(self.assert_told_right([(4, 9)], [0], 1), 0)
        self.assertEqual(self.assert_told_right([LINE], [HEAVIEST], 20), HEAVIEST)

    def test_a_span_that_is_best_for_one_and_in_no_best_choice_for_two(self):
        for spans, weights, for_one, for_two in [
            ([(0, 3), (2, 4), (2, 6), (1, 2), (5, 6)], [8, 5, 8, 8, 6], [1, 3, 4], [0, 2, 3, 4]),
            ([(0, 5), (3, 6), (5, 6), (0, 1), (2, 5)], [6, 6, 5, 6, 5], [2, 3, 4], [0, 1, 2, 3]),
            ([(4, 5), (0, 4), (1, 3), (0, 1), (2, 6)], [8, 5, 3, 9, 7], [0, 2, 3], [0, 1, 3, 4]),
        ]:
            self.assertEqual(heaviest(spans, weights, 1)[0], for_one)
            self.assertEqual(heaviest(spans, weights, 2)[0], for_two)
            for k in (1, 2, 3):
                self.assertEqual(self.assert_told_right(spans, weights, k), slow_heaviest(spans, weights, k))

    def test_the_same_span_several_times(self):
        weights = list(range(60))
        for k in (1, 2, 3, 20):
            told = self.assert_told_right([(4, 9)] * 60, weights, k)
            self.assertEqual(told, sum(range(60 - k, 60)))
            self.assertEqual(heaviest([(4, 9)] * 60, weights, k)[0], list(range(60 - k, 60)))

    def test_spans_that_touch_share_a_lane(self):
        self.assertEqual(self.assert_told_right([(5, 9), (0, 5)], [3, 4], 1), 7)
        self.assertEqual(self.assert_told_right([(5, 9), (0, 6)], [3, 4], 1), 4)
        self.assertEqual(self.assert_told_right(SIXTY_TOUCHING, [HEAVIEST] * 60, 1), 60 * HEAVIEST)

    def test_one_lane_more_than_the_depth_takes_all(self):
        spans = [(0, 5), (3, 9), (4, 12)]
        self.assertEqual(self.assert_told_right(spans, [5, 1, 5], 3), 11)
        self.assertEqual(self.assert_told_right(spans, [5, 1, 5], 2), 10)
        self.assertEqual(self.assert_told_right(spans, [5, 11, 5], 1), 11)

    def test_sixty_of_twelve_figures_and_k_of_twenty(self):
        chance = random.Random(95)
        for spans in (SIXTY_OF_TWELVE_FIGURES, SIXTY_STAIRS, SIXTY_NESTED, [LINE] * 60):
            for turn in range(5):
                weights = [chance.randint(0, HEAVIEST) for at in range(60)]
                for k in (1, 10, 20):
                    self.assert_told_right(spans, weights, k)


class RefusalTest(AskCase):
    def refused(self, kind, spans, weights, k):
        self.assert_refused(kind, heaviest, spans, weights, k)
        for chosen, prices in (([], []), ([0], [(0, 1)]), ([-1, 99], [(FAR, -FAR)])):
            self.assert_refused(kind, shows_heaviest, spans, weights, k, chosen, prices)

    def test_no_span_at_any_place_of_the_list(self):
        for wrong in NO_SPANS:
            self.refused(NoSpan, [wrong], [1], 1)
            for spans in ([wrong, (0, 1), (2, 3)], [(0, 1), wrong, (2, 3)], [(0, 1), (2, 3), wrong]):
                self.refused(NoSpan, spans, [1, 1, 1], 1)

    def test_no_weight(self):
        for weights in NO_WEIGHTS_OF_TWO:
            self.refused(NoWeight, [(0, 5), (3, 9)], weights, 1)
            self.refused(NoWeight, [(0, 5), (3, 9)], weights, 20)
        self.refused(NoWeight, [], [0], 1)
        self.refused(NoWeight, [(0, 5)], [], 1)
        self.refused(NoWeight, SIXTY_STAIRS, [1] * 59, 1)
        self.refused(NoWeight, SIXTY_STAIRS, [1] * 61, 1)
        self.refused(NoWeight, SIXTY_STAIRS, [1] * 59 + [-1], 1)

    def test_no_count(self):
        for k in NO_COUNTS:
            self.refused(NoCount, [(0, 5), (3, 9)], [1, 2], k)
            self.refused(NoCount, [], [], k)

    def test_truths_are_no_whole_numbers(self):
        for truth in (True, False):
            self.refused(NoWeight, [(0, 5), (3, 9)], [1, truth], 1)
            self.refused(NoCount, [(0, 5), (3, 9)], [1, 2], truth)

    def test_the_bounds_themselves_are_not_refused(self):
        for k in range(1, 21):
            for weights in ([0, HEAVIEST], [HEAVIEST, 0]):
                chosen, prices = heaviest([(0, 5), (3, 9)], weights, k)
                self.assert_truth(True, shows_heaviest([(0, 5), (3, 9)], weights, k, chosen, prices))

    def test_no_span_goes_ahead_of_no_weight_and_that_ahead_of_no_count(self):
        for k in [1] + NO_COUNTS:
            for weights in NO_WEIGHTS_OF_TWO:
                self.refused(NoWeight, [(0, 5), (3, 9)], weights, k)
                self.refused(NoSpan, [(0, 5), (3, 3)], weights, k)
                self.refused(NoSpan, [(LEAST - 1, 5), (3, 4)], weights, k)
            self.refused(NoSpan, [(0, 5), (3, 3)], [1, 2], k)

    def test_a_refusal_between_changes_no_answer(self):
        spans, weights = [(0, 5), (3, 9)], [4, 6]
        told = heaviest(spans, weights, 1)
        self.refused(NoSpan, [(0, 5), (3, 3)], weights, 1)
        self.refused(NoWeight, spans, [4], 1)
        self.refused(NoCount, spans, weights, 21)
        self.assertEqual(heaviest(spans, weights, 1), told)


class ShowsHeaviestTest(AskCase):
    def test_every_small_paper_of_two_spans(self):
        numbers = [[], [0], [1], [0, 1], [1, 0], [0, 0], [1, 1], [-1], [2], [0, -1], [0, 2]]
        singles = [(place, price) for place in (-1, 0, 1, 2) for price in (-1, 0, 1, 2)]
        prices_of_all = [[]] + [[one] for one in singles] + [list(row) for row in itertools.product(singles, repeat=2)]
        let_by = 0
        for spans in itertools.combinations_with_replacement(spans_up_to(2), 2):
            for weights in ([0, 0], [1, 1], [2, 1]):
                for k in (1, 2):
                    for chosen, prices in itertools.product(numbers, prices_of_all):
                        handed = (list(spans), weights, k, chosen, prices)
                        wanted = slow_shows(*handed)
                        let_by += wanted
                        self.assert_truth(wanted, shows_heaviest(*handed), handed)
        self.assertGreater(let_by, 500)

    def test_papers_of_any_kind_by_chance(self):
        chance = random.Random(96)
        let_by = 0
        for turn in range(6000):
            many = chance.randint(0, 4)
            spans = [chance.choice(spans_up_to(4)) for at in range(many)]
            weights = [chance.randint(0, 2) for at in range(many)]
            k = chance.randint(1, 3)
            chosen = [number for number in range(many) if chance.random() < 0.8]
            prices = [(chance.randint(-1, 5), chance.choice([0, 0, 1, 1, 2])) for at in range(chance.randint(0, 3))]
            wanted = slow_shows(spans, weights, k, chosen, prices)
            let_by += wanted
            self.assert_truth(wanted, shows_heaviest(spans, weights, k, chosen, prices))
        self.assertGreater(let_by, 500)

    def test_right_papers_in_other_orders(self):
        spans, weights = [(0, 4), (0, 2), (2, 4), (2, 4)], [9, 6, 5, 4]
        chosen, prices = [1, 2], [(1, 5), (3, 4), (-7, 0)]
        for numbers in itertools.permutations(chosen):
            for some in itertools.permutations(prices):
                self.assert_truth(True, shows_heaviest(spans, weights, 1, list(numbers), list(some)))
        chance = random.Random(97)
        for spans in chance_lists(98, 60):
            weights = chance_weights(chance, len(spans))
            chosen, prices = heaviest(spans, weights, 3)
            chance.shuffle(chosen)
            chance.shuffle(prices)
            self.assert_truth(True, shows_heaviest(spans, weights, 3, chosen, prices))

    def test_a_place_that_stands_twice_pays_both(self):
        spans, weights = [(0, 4), (0, 2), (2, 4)], [9, 6, 5]
        self.assert_truth(True, shows_heaviest(spans, weights, 1, [1, 2], [(1, 6), (3, 5)]))
        self.assert_truth(True, shows_heaviest(spans, weights, 1, [1, 2], [(1, 2), (3, 5), (1, 4)]))
        self.assert_truth(True, shows_heaviest(spans, weights, 1, [1, 2], [(1, 3), (3, 5), (1, 3)]))
        self.assert_truth(False, shows_heaviest(spans, weights, 1, [1, 2], [(1, 6), (3, 5), (1, 6)]))
        self.assert_truth(False, shows_heaviest(spans, weights, 1, [1, 2], [(1, 4), (3, 5), (1, 4)]))

    def test_prices_below_nought(self):
        spans, weights = [(0, 4)], [9]
        self.assert_truth(True, shows_heaviest(spans, weights, 1, [0], [(1, 9)]))
        self.assert_truth(True, shows_heaviest(spans, weights, 1, [0], []))
        self.assert_truth(False, shows_heaviest(spans, weights, 1, [0], [(1, 10), (2, -1)]))
        self.assert_truth(False, shows_heaviest(spans, weights, 1, [0], [(1, -1)]))
        self.assert_truth(False, shows_heaviest(spans, weights, 1, [0], [(1, 10), (1, -1)]))
        self.assert_truth(False, shows_heaviest(spans, weights, 1, [0], [(FAR, 1), (FAR, -1)]))
        # Without this the sums would be the same, and nothing chosen would pass for the heaviest.
        self.assert_truth(False, shows_heaviest(spans, weights, 1, [], [(1, 9), (FAR, -9)]))

    def test_prices_of_nought_and_places_far_beyond(self):
        spans, weights = [(0, 4), (2, 9)], [9, 4]
        right = [(3, 4)]
        self.assert_truth(True, shows_heaviest(spans, weights, 1, [0], right))
        for far in (4, 9, -1, GREATEST, GREATEST + 1, LEAST - 1, FAR, -FAR):
            self.assert_truth(True, shows_heaviest(spans, weights, 1, [0], right + [(far, 0)]))
            self.assert_truth(False, shows_heaviest(spans, weights, 1, [0], right + [(far, 1)]), far)
            self.assert_truth(False, shows_heaviest(spans, weights, 1, [0], [(far, 4)]), far)
        self.assert_truth(False, shows_heaviest(spans, weights, 1, [0], [(3, FAR)]))
        self.assert_truth(False, shows_heaviest(spans, weights, 1, [0], [(3, -FAR)]))

    def test_a_price_at_an_end(self):
        spans, weights = [(0, 4), (4, 8)], [3, 3]
        self.assert_truth(True, shows_heaviest(spans, weights, 1, [0, 1], [(0, 3), (4, 3)]))
        self.assert_truth(True, shows_heaviest(spans, weights, 1, [0, 1], [(3, 3), (7, 3)]))
        self.assert_truth(False, shows_heaviest(spans, weights, 1, [0, 1], [(3, 3), (8, 3)]))
        self.assert_truth(False, shows_heaviest(spans, weights, 1, [0, 1], [(-1, 3), (4, 3)]))

    def test_sums_that_differ_by_one(self):
        spans, weights = [(0, 4), (2, 9)], [9, 4]
        for price in (4, 5, 8, 9):
            self.assert_truth(True, shows_heaviest(spans, weights, 1, [0], [(3, price)]), price)
        for price in (3, 10):
            self.assert_truth(False, shows_heaviest(spans, weights, 1, [0], [(3, price)]), price)
        self.assert_truth(False, shows_heaviest(spans, [10, 4], 1, [1], [(3, 10)]))
        self.assert_truth(False, shows_heaviest([(0, 4), (0, 4)], [10, 9], 1, [1], [(3, 10)]))
        self.assert_truth(True, shows_heaviest([(0, 4), (0, 4)], [10, 9], 1, [0], [(3, 10)]))

    def test_wrong_numbers(self):
        spans, weights, prices = [(0, 4), (5, 9)], [6, 6], []
        self.assert_truth(True, shows_heaviest(spans, weights, 1, [0, 1], prices))
        self.assert_truth(True, shows_heaviest(spans, weights, 2, [1, 0], prices))
        for chosen in ([0, 0], [1, 1], [0, -1], [-2, -1], [0, 2], [0, FAR], [-FAR, 1], [0], [], [0, 1, 1], [0, 1, 2]):
            for k in (1, 2):
                self.assert_truth(False, shows_heaviest(spans, weights, k, chosen, prices), chosen)
        self.assert_truth(False, shows_heaviest([(0, 4), (5, 9)], [6, 0], 2, [0, 1, 1], []))
        self.assert_truth(False, shows_heaviest([(0, 4), (5, 9)], [6, 0], 2, [0, -1], []))

    def test_too_deep(self):
        spans = [(0, 4), (2, 9), (3, 5)]
        self.assert_truth(True, shows_heaviest(spans, [1, 1, 1], 3, [0, 1, 2], []))
        self.assert_truth(False, shows_heaviest(spans, [1, 1, 1], 2, [0, 1, 2], []))
        self.assert_truth(True, shows_heaviest(spans, [0, 0, 0], 2, [0, 1], []))
        self.assert_truth(False, shows_heaviest(spans, [0, 0, 0], 2, [0, 1, 2], []))
        self.assert_truth(False, shows_heaviest(spans, [0, 0, 0], 1, [0, 1], []))
        self.assert_truth(True, shows_heaviest([(0, 4), (4, 9)], [0, 0], 1, [0, 1], []))

    def test_k_one_more_and_one_less(self):
        spans, weights = [(0, 9)] * 4, [9, 8, 7, 6]
        self.assert_truth(True, shows_heaviest(spans, weights, 2, [0, 1], [(5, 7)]))
        self.assert_truth(True, shows_heaviest(spans, weights, 2, [0, 1], [(5, 8)]))
        self.assert_truth(False, shows_heaviest(spans, weights, 1, [0, 1], [(5, 7)]))
        self.assert_truth(False, shows_heaviest(spans, weights, 3, [0, 1], [(5, 7)]))
        self.assert_truth(False, shows_heaviest(spans, weights, 3, [0, 1, 2], [(5, 8)]))
        self.assert_truth(False, shows_heaviest(spans, weights, 1, [0], [(5, 7)]))
        chance = random.Random(99)
        for spans in chance_lists(90, 60):
            weights = chance_weights(chance, len(spans))
            chosen, prices = heaviest(spans, weights, 3)
            for k in (2, 4):
                self.assert_truth(slow_shows(spans, weights, k, chosen, prices),
                                  shows_heaviest(spans, weights, k, chosen, prices))

    def test_empty_lists(self):
        self.assert_truth(True, shows_heaviest([], [], 1, [], []))
        self.assert_truth(True, shows_heaviest([], [], 20, [], [(5, 0)]))
        self.assert_truth(False, shows_heaviest([], [], 1, [], [(5, 1)]))
        self.assert_truth(False, shows_heaviest([], [], 1, [0], []))
        self.assert_truth(False, shows_heaviest([], [], 1, [-1], []))
        self.assert_truth(True, shows_heaviest([(0, 5)], [0], 1, [], []))
        self.assert_truth(False, shows_heaviest([(0, 5)], [1], 1, [], []))

    def test_lists_of_two_hundred(self):
        spans, weights = SIXTY_TOUCHING, [200] * 60
        many_prices = [(place, 1) for place in range(60)] + [(FAR, 0)] * 140
        with soon():
            self.assert_truth(True, shows_heaviest(spans, weights, 1, list(range(60)), many_prices))
            self.assert_truth(True, shows_heaviest([LINE], [200], 1, [0], [(place, 1) for place in range(200)]))
            self.assert_truth(True, shows_heaviest([LINE], [200], 1, [0], [(5, 1)] * 200))
            self.assert_truth(False, shows_heaviest([LINE], [199], 1, [0], [(5, 1)] * 200))
            self.assert_truth(False, shows_heaviest(spans, weights, 1, list(range(200)), many_prices))
            self.assert_truth(False, shows_heaviest(spans, weights, 20, [0] * 200, [(FAR, FAR)] * 200))
            self.assert_truth(False, shows_heaviest(spans, weights, 20, [-FAR] * 200, [(-FAR, -FAR)] * 200))

    def test_what_was_told_with_one_thing_changed(self):
        chance = random.Random(100)
        for spans in chance_lists(101, 60):
            weights = [chance.randint(1, 50) for span in spans]
            chosen, prices = heaviest(spans, weights, 2)
            for at in range(len(chosen)):
                fewer = chosen[:at] + chosen[at + 1:]
                self.assert_truth(False, shows_heaviest(spans, weights, 2, fewer, prices))
                self.assert_truth(False, shows_heaviest(spans, weights, 2, chosen + [chosen[at]], prices))
            for at, (place, price) in enumerate(prices):
                for other in (price - 1, price + 1):
                    changed = prices[:at] + [(place, other)] + prices[at + 1:]
                    self.assert_truth(slow_shows(spans, weights, 2, chosen, changed),
                                      shows_heaviest(spans, weights, 2, chosen, changed))
            self.assert_truth(False, shows_heaviest(spans, weights, 2, chosen, prices + [(FAR, 1)]))


class OwnTest(AskCase):
    def test_nothing_handed_in_changes_and_what_is_told_is_the_askers_own(self):
        for spans in NAMED_LISTS.values():
            weights = [7 * number % 10 for number in range(len(spans))]
            for k in (1, 2, 20):
                self.assert_own(lambda some, others: heaviest(some, others, k), list(spans), list(weights))

    def test_nothing_handed_to_the_looker_changes(self):
        ask = lambda spans, weights, chosen, prices: shows_heaviest(spans, weights, 1, chosen, prices)
        self.assert_own(ask, [(0, 4), (0, 2), (2, 4)], [9, 6, 5], [2, 1], [(3, 5), (1, 6)])


if __name__ == "__main__":
    unittest.main()
