"""Points 2, 3, 4 and 10: the cheapest cover of a span, with its rents, the least bare place, and the looker."""

import itertools
import random
import unittest

from helper import (
    AskCase,
    FAR,
    GREATEST,
    HEAVIEST,
    LEAST,
    LINE,
    NAMED_LISTS,
    NO_SPANS,
    NO_WEIGHTS_OF_TWO,
    SIXTY_NESTED,
    SIXTY_OF_TWELVE_FIGURES,
    SIXTY_STAIRS,
    SIXTY_TOUCHING,
    are_numbers_of,
    are_rising,
    chance_lists,
    chance_span,
    chance_weights,
    holds,
    places,
    small_lists,
    soon,
    spans_up_to,
    subsets,
    with_wrong_span,
)
from spanshelf.covering import cheapest, shows_cheapest
from spanshelf.errors import NoSpan, NoWeight


def slow_bare(span, spans):
    """Tell the least bare place: the low, or a place at which one of the spans ends."""
    edges = [span[0]] + sorted(high for low, high in spans if holds(span, high))
    for place in edges:
        if not any(holds(one, place) for one in spans):
            return place
    return None


def slow_shows(span, spans, costs, chosen, rents):
    """Say the document's words one by one."""
    if not are_numbers_of(chosen, spans) or slow_bare(span, [spans[number] for number in chosen]) is not None:
        return False
    if not all(holds(span, place) and rent >= 0 for place, rent in rents):
        return False
    for one, cost in zip(spans, costs):
        if sum(rent for place, rent in rents if holds(one, place)) > cost:
            return False
    return sum(costs[number] for number in chosen) == sum(rent for place, rent in rents)


def slow_cheapest(span, spans, costs):
    """Go through all choices, place by place; None where none covers the span."""
    wanted = places(span)
    found = [sum(costs[number] for number in chosen) for chosen in subsets(len(spans))
             if wanted <= set().union(*[places(spans[number]) for number in chosen])]
    return min(found, default=None)


class CheapestTest(AskCase):
    def assert_told_right(self, span, spans, costs):
        """Tell the cost of the cover that was told, None where a bare place was told."""
        with soon():
            told = cheapest(span, spans, costs)
        about = (span, spans, costs, told)
        self.assertIs(told.__class__, tuple)
        if told[0] == "bare":
            self.assertEqual(told, ("bare", slow_bare(span, spans)), about)
            self.assertIsNotNone(told[1], about)
            self.assert_truth(False, shows_cheapest(span, spans, costs, list(range(len(spans))), []), about)
            return None
        word, chosen, rents = told
        self.assertEqual((word, chosen.__class__, rents.__class__), ("cover", list, list), about)
        self.assertTrue(are_rising(chosen), about)
        self.assertTrue(are_rising([place for place, rent in rents]), about)
        self.assertTrue(all(row.__class__ is tuple and row[1] >= 1 for row in rents), about)
        self.assertLessEqual(len(rents), 120)
        self.assertTrue(slow_shows(span, spans, costs, chosen, rents), about)
        self.assert_truth(True, shows_cheapest(span, spans, costs, chosen, rents), about)
        return sum(costs[number] for number in chosen)

    def test_small_lists_with_all_small_costs_and_nothing_better_by_all_choices(self):
        for many in range(4):
            for row in itertools.product(spans_up_to(3), repeat=many):
                spans = list(row)
                for costs in itertools.product(range(3), repeat=many):
                    for span in spans_up_to(3):
                        told = self.assert_told_right(span, spans, list(costs))
                        self.assertEqual(told, slow_cheapest(span, spans, costs), (span, spans, costs))

    def test_small_lists_with_costs_by_chance_and_nothing_better_by_all_choices(self):
        chance = random.Random(101)
        for spans in small_lists():
            costs = chance_weights(chance, len(spans))
            for span in [(0, 4), chance.choice(spans_up_to(4)), (-1, 3), (1, 5)]:
                told = self.assert_told_right(span, spans, costs)
                self.assertEqual(told, slow_cheapest(span, spans, costs), (span, spans, costs))

    def test_named_lists(self):
        chance = random.Random(102)
        covered = 0
        for spans in NAMED_LISTS.values():
            many = len(spans)
            lows, highs = [low for low, high in spans] or [0], [high for low, high in spans] or [1]
            for costs in ([0] * many, [1] * many, [HEAVIEST] * many, list(range(many)), chance_weights(chance, many)):
                for span in [(min(lows), max(highs)), LINE, (min(lows), max(lows) + 1), (0, 1)] + spans[:3]:
                    covered += self.assert_told_right(span, spans, costs) is not None
        self.assertGreater(covered, 100)

    def test_lists_by_chance(self):
        chance = random.Random(103)
        covered = 0
        for spans in chance_lists(104, 400):
            costs = chance_weights(chance, len(spans))
            low, high = min(low for low, high in spans), max(high for low, high in spans)
            for span in ((low, high), chance_span(chance, low, high, high - low), chance.choice(spans)):
                covered += self.assert_told_right(span, spans, costs) is not None
        self.assertGreater(covered, 400)

    def test_the_empty_list_leaves_the_low_bare(self):
        for span in [(0, 1), (4, 9), LINE, (-7, -3), (GREATEST - 1, GREATEST)]:
            self.assertEqual(cheapest(span, [], []), ("bare", span[0]))

    def test_the_least_bare_place(self):
        for span, spans, place in [
            ((0, 9), [(0, 5)], 5),
            ((0, 9), [(0, 5), (6, 9)], 5),
            ((0, 9), [(6, 9), (0, 5), (5, 6)], None),
            ((0, 9), [(1, 9)], 0),
            ((0, 9), [(0, 8)], 8),
            ((3, 9), [(0, 5), (7, 12)], 5),
            ((3, 9), [(0, 3), (9, 12)], 3),
            ((0, 9), [(0, 5), (2, 7), (-3, 1), (8, 20)], 7),
            (LINE, [(LEAST, GREATEST - 1)], GREATEST - 1),
            (LINE, [(LEAST + 1, GREATEST)], LEAST),
            (LINE, [(LEAST, -1), (0, GREATEST)], -1),
            (LINE, [(LEAST, 0), (0, GREATEST)], None),
        ]:
            told = cheapest(span, spans, [7] * len(spans))
            if place is None:
                self.assertEqual(told[0], "cover")
            else:
                self.assertEqual(told, ("bare", place))

    def test_one_span(self):
        word, chosen, rents = cheapest((4, 9), [(4, 9)], [7])
        self.assertEqual((word, chosen), ("cover", [0]))
        self.assertEqual(self.assert_told_right((5, 6), [(4, 9)], [7]), 7)
        self.assertEqual(self.assert_told_right(LINE, [LINE], [HEAVIEST]), HEAVIEST)
        self.assertEqual(cheapest((4, 9), [(4, 9)], [0]), ("cover", [0], []))

    def test_the_same_span_several_times_takes_the_cheapest_one(self):
        word, chosen, rents = cheapest((4, 9), [(4, 9)] * 5, [7, 3, 9, 2, 8])
        self.assertEqual((word, chosen), ("cover", [3]))
        self.assertEqual(self.assert_told_right((4, 9), [(4, 9)] * 60, list(range(60, 0, -1))), 1)

    def test_spans_that_only_touch_cover_what_they_hold_together(self):
        word, chosen, rents = cheapest((0, 9), [(5, 9), (0, 5)], [3, 4])
        self.assertEqual((word, chosen), ("cover", [0, 1]))
        self.assertEqual(self.assert_told_right((0, 60), SIXTY_TOUCHING, [HEAVIEST] * 60), 60 * HEAVIEST)
        self.assertEqual(self.assert_told_right((4, 6), [(5, 9), (0, 5)], [3, 4]), 7)
        self.assertEqual(self.assert_told_right((5, 6), [(5, 9), (0, 5)], [3, 4]), 3)

    def test_one_dear_span_and_many_cheap_ones(self):
        spans = [(0, 60)] + SIXTY_TOUCHING[1:]
        self.assertEqual(self.assert_told_right((0, 59), spans, [59] + [1] * 59), 59)
        self.assertEqual(self.assert_told_right((0, 59), spans, [58] + [1] * 59), 58)
        self.assertEqual(self.assert_told_right((0, 59), spans, [60] + [1] * 59), 59)
        self.assertEqual(self.assert_told_right((0, 60), spans, [999] + [1] * 59), 999)

    def test_spans_that_reach_beyond_the_span(self):
        spans, costs = [(-50, 3), (2, 60), (-50, 60), (1, 4)], [4, 4, 9, 0]
        self.assertEqual(self.assert_told_right((0, 5), spans, costs), 8)
        self.assertEqual(self.assert_told_right((1, 4), spans, costs), 0)
        self.assertEqual(self.assert_told_right((-50, 60), spans, costs), 8)

    def test_sixty_of_twelve_figures(self):
        chance = random.Random(105)
        for spans in (SIXTY_OF_TWELVE_FIGURES, SIXTY_STAIRS, SIXTY_NESTED, [LINE] * 60):
            low, high = min(low for low, high in spans), max(high for low, high in spans)
            for turn in range(5):
                costs = [chance.randint(0, HEAVIEST) for at in range(60)]
                self.assertIsNotNone(self.assert_told_right((low, high), spans, costs))

    def test_sixty_spans_with_as_many_ends_as_can_be(self):
        chance = random.Random(106)
        step = 10 ** 10
        spans = [(LEAST + step * k + k * k, LEAST + step * (k + 1) + 7 * k + 9000) for k in range(60)]
        costs = [chance.randint(1, HEAVIEST) for at in range(60)]
        self.assertEqual(self.assert_told_right((LEAST, spans[-1][1]), spans, costs), sum(costs))


class RefusalTest(AskCase):
    def refused(self, kind, span, spans, costs):
        self.assert_refused(kind, cheapest, span, spans, costs)
        for chosen, rents in (([], []), ([0], [(0, 1)]), ([-1, 99], [(FAR, -FAR)])):
            self.assert_refused(kind, shows_cheapest, span, spans, costs, chosen, rents)

    def test_the_span_to_be_covered_is_none(self):
        for wrong in NO_SPANS:
            for spans, costs in (([], []), ([(0, 5)], [1]), ([(0, 5), (3, 9)], [1, 2])):
                self.refused(NoSpan, wrong, spans, costs)

    def test_a_span_that_is_none_at_any_place_of_the_list(self):
        for wrong in NO_SPANS:
            for spans in with_wrong_span(wrong):
                self.refused(NoSpan, (0, 1), spans, [1] * len(spans))

    def test_no_costs(self):
        for costs in NO_WEIGHTS_OF_TWO:
            self.refused(NoWeight, (0, 9), [(0, 5), (3, 9)], costs)
            self.refused(NoWeight, (20, 30), [(0, 5), (3, 9)], costs)
        self.refused(NoWeight, (0, 9), [], [0])
        self.refused(NoWeight, (0, 9), [(0, 9)], [])
        for costs in ([1] * 59, [1] * 61, [1] * 59 + [-1], [HEAVIEST + 1] + [1] * 59):
            self.refused(NoWeight, (0, 9), SIXTY_STAIRS, costs)

    def test_the_bounds_themselves_are_not_refused(self):
        self.assertEqual(cheapest(LINE, [LINE], [HEAVIEST])[:2], ("cover", [0]))
        self.assertEqual(cheapest(LINE, [LINE], [0])[:2], ("cover", [0]))

    def test_no_span_goes_ahead_of_no_weight(self):
        for wrong in NO_SPANS:
            for costs in NO_WEIGHTS_OF_TWO:
                self.refused(NoSpan, wrong, [(0, 5), (3, 9)], costs)
                self.refused(NoSpan, (0, 9), [(0, 5), wrong], costs)
                self.refused(NoSpan, wrong, [(0, 5), wrong], costs)

    def test_a_refusal_between_changes_no_answer(self):
        span, spans, costs = (0, 9), [(0, 5), (3, 9), (0, 9)], [4, 6, 11]
        told = cheapest(span, spans, costs)
        self.refused(NoSpan, (9, 0), spans, costs)
        self.refused(NoSpan, span, spans + [(1, 1)], costs)
        self.refused(NoWeight, span, spans, costs[1:])
        self.assertEqual(cheapest(span, spans, costs), told)


class ShowsCheapestTest(AskCase):
    def test_every_small_paper_of_two_spans(self):
        numbers = [[], [0], [1], [0, 1], [1, 0], [0, 0], [-1], [2], [0, -1], [0, 2], [0, 1, 1]]
        singles = [(place, rent) for place in (-1, 0, 1, 2) for rent in (-1, 0, 1, 2)]
        rents_of_all = [[]] + [[one] for one in singles] + [list(row) for row in itertools.product(singles, repeat=2)]
        let_by = 0
        for span in spans_up_to(2):
            for spans in itertools.combinations_with_replacement(spans_up_to(2), 2):
                for costs in ([0, 0], [1, 1], [2, 1]):
                    for chosen, rents in itertools.product(numbers, rents_of_all):
                        handed = (span, list(spans), costs, chosen, rents)
                        wanted = slow_shows(*handed)
                        let_by += wanted
                        self.assert_truth(wanted, shows_cheapest(*handed), handed)
        self.assertGreater(let_by, 300)

    def test_papers_of_any_kind_by_chance(self):
        chance = random.Random(107)
        let_by = 0
        for turn in range(8000):
            many = chance.randint(1, 4)
            spans = [chance.choice(spans_up_to(4)) for at in range(many)]
            costs = [chance.randint(0, 2) for at in range(many)]
            span = chance.choice(spans_up_to(4))
            chosen = [number for number in range(many) if chance.random() < 0.6]
            rents = [(chance.randint(0, 3), chance.choice([0, 1, 1, 2])) for at in range(chance.randint(0, 3))]
            wanted = slow_shows(span, spans, costs, chosen, rents)
            let_by += wanted
            self.assert_truth(wanted, shows_cheapest(span, spans, costs, chosen, rents))
        self.assertGreater(let_by, 100)

    def test_right_papers_in_other_orders(self):
        span, spans, costs = (0, 9), [(0, 4), (3, 7), (6, 9), (0, 9)], [3, 4, 5, 13]
        for chosen in itertools.permutations([0, 1, 2]):
            for rents in itertools.permutations([(0, 3), (5, 4), (8, 5), (2, 0)]):
                self.assert_truth(True, shows_cheapest(span, spans, costs, list(chosen), list(rents)))
        chance = random.Random(108)
        for spans in chance_lists(109, 60):
            costs = chance_weights(chance, len(spans))
            word, chosen, rents = cheapest(spans[0], spans, costs)
            chance.shuffle(chosen)
            chance.shuffle(rents)
            self.assert_truth(True, shows_cheapest(spans[0], spans, costs, chosen, rents))

    def test_wrong_numbers(self):
        span, spans, costs, rents = (0, 9), [(0, 5), (4, 9)], [6, 0], [(2, 6)]
        self.assert_truth(True, shows_cheapest(span, spans, costs, [0, 1], rents))
        self.assert_truth(True, shows_cheapest(span, spans, costs, [1, 0], rents))
        for chosen in ([0, 0], [1, 1], [0, -1], [-2, -1], [0, 2], [0, FAR], [-FAR, 1], [0], [1], [],
                       [0, 1, 1], [0, 1, 2], [0, 1, -1]):
            self.assert_truth(False, shows_cheapest(span, spans, costs, chosen, rents), chosen)

    def test_chosen_ones_that_leave_a_place_bare(self):
        spans, costs = [(0, 5), (6, 9), (5, 6), (0, 4)], [0, 0, 0, 0]
        self.assert_truth(True, shows_cheapest((0, 9), spans, costs, [0, 1, 2], []))
        for chosen in ([0, 1], [0, 2], [1, 2], [1, 2, 3], []):
            self.assert_truth(False, shows_cheapest((0, 9), spans, costs, chosen, []), chosen)
        self.assert_truth(False, shows_cheapest((0, 10), spans, costs, [0, 1, 2, 3], []))
        self.assert_truth(False, shows_cheapest((-1, 9), spans, costs, [0, 1, 2, 3], []))
        self.assert_truth(True, shows_cheapest((2, 4), spans, costs, [3], []))

    def test_more_chosen_than_needed_are_let_by_where_they_cost_nothing(self):
        self.assert_truth(True, shows_cheapest((0, 5), [(0, 5), (7, 9)], [3, 0], [0, 1], [(1, 3)]))
        self.assert_truth(False, shows_cheapest((0, 5), [(0, 5), (7, 9)], [3, 1], [0, 1], [(1, 3)]))

    def test_rents_below_nought(self):
        span, spans, costs = (0, 9), [(0, 9), (0, 5)], [5, 3]
        self.assert_truth(True, shows_cheapest(span, spans, costs, [0], [(1, 3), (7, 2)]))
        self.assert_truth(False, shows_cheapest(span, spans, costs, [0], [(1, 3), (2, -1), (7, 3)]))
        self.assert_truth(False, shows_cheapest(span, spans, costs, [0], [(1, -1), (7, 6)]))
        self.assert_truth(False, shows_cheapest(span, spans, costs, [0], [(7, 6), (7, -1)]))
        self.assert_truth(False, shows_cheapest(span, spans, costs, [0], [(FAR, -1), (7, 6)]))
        # Without this the sums would be the same, and a dear cover would pass for the cheapest.
        self.assert_truth(False, shows_cheapest((0, 9), [(0, 9), (0, 8), (8, 9)], [5, 1, 1], [0],
                                                [(0, 1), (8, 1), (2, 3), (3, -3), (4, 3)]))

    def test_rents_at_places_that_are_not_the_spans(self):
        span, spans, costs = (3, 9), [(0, 12)], [5]
        for place in (3, 5, 8):
            self.assert_truth(True, shows_cheapest(span, spans, costs, [0], [(place, 5)]), place)
        for place in (2, 9, 0, 11, 12, -1, LEAST - 1, GREATEST + 1, FAR, -FAR):
            self.assert_truth(False, shows_cheapest(span, spans, costs, [0], [(place, 5)]), place)
            self.assert_truth(False, shows_cheapest(span, spans, costs, [0], [(4, 5), (place, 0)]), place)

    def test_a_place_that_stands_twice_pays_both(self):
        span, spans, costs = (0, 9), [(0, 9), (2, 4)], [5, 3]
        self.assert_truth(True, shows_cheapest(span, spans, costs, [0], [(1, 5)]))
        self.assert_truth(True, shows_cheapest(span, spans, costs, [0], [(1, 2), (1, 3)]))
        self.assert_truth(True, shows_cheapest(span, spans, costs, [0], [(1, 1), (5, 1), (1, 3)]))
        self.assert_truth(False, shows_cheapest(span, spans, costs, [0], [(1, 5), (1, 5)]))
        self.assert_truth(False, shows_cheapest(span, spans, costs, [0], [(1, 1), (2, 2), (2, 2)]))
        self.assert_truth(True, shows_cheapest(span, spans, costs, [0], [(1, 2), (2, 1), (2, 2)]))

    def test_rents_of_a_span_that_are_more_than_its_cost(self):
        spans, costs = [(0, 9), (2, 6)], [5, 3]
        self.assert_truth(True, shows_cheapest((0, 9), spans, costs, [0], [(2, 3), (6, 2)]))
        for rents in ([(2, 4), (6, 1)], [(5, 5)], [(2, 2), (5, 2), (8, 1)]):
            self.assert_truth(False, shows_cheapest((0, 9), spans, costs, [0], rents), rents)
        self.assert_truth(True, shows_cheapest((0, 9), spans, costs, [0], [(1, 5)]))
        self.assert_truth(False, shows_cheapest((0, 9), spans, costs, [0, 1], [(1, 5), (3, 3)]))

    def test_sums_that_differ_by_one(self):
        span, spans, costs = (0, 9), [(0, 5), (4, 9)], [6, 7]
        self.assert_truth(True, shows_cheapest(span, spans, costs, [0, 1], [(0, 6), (8, 7)]))
        self.assert_truth(False, shows_cheapest(span, spans, costs, [0, 1], [(0, 5), (8, 7)]))
        self.assert_truth(False, shows_cheapest(span, spans, costs, [0, 1], [(0, 6), (8, 6)]))
        self.assert_truth(False, shows_cheapest(span, spans, costs, [0, 1], [(0, 6), (8, 8)]))
        self.assert_truth(False, shows_cheapest(span, spans, costs, [0, 1], []))
        self.assert_truth(False, shows_cheapest((0, 5), [(0, 5), (0, 5)], [4, 3], [0], [(0, 3)]))
        self.assert_truth(True, shows_cheapest((0, 5), [(0, 5), (0, 5)], [4, 3], [1], [(0, 3)]))

    def test_empty_lists(self):
        self.assert_truth(False, shows_cheapest((0, 1), [], [], [], []))
        self.assert_truth(False, shows_cheapest((0, 1), [], [], [0], []))
        self.assert_truth(False, shows_cheapest((0, 1), [], [], [], [(0, 1)]))
        self.assert_truth(False, shows_cheapest((0, 1), [(0, 1)], [0], [], []))
        self.assert_truth(True, shows_cheapest((0, 1), [(0, 1)], [0], [0], []))
        self.assert_truth(False, shows_cheapest((0, 1), [(0, 1)], [1], [0], []))

    def test_lists_of_two_hundred(self):
        with soon():
            self.assert_truth(True, shows_cheapest(LINE, [LINE], [200], [0], [(place, 1) for place in range(200)]))
            self.assert_truth(True, shows_cheapest(LINE, [LINE], [200], [0], [(5, 1)] * 200))
            self.assert_truth(False, shows_cheapest(LINE, [LINE], [199], [0], [(5, 1)] * 200))
            rents = [(place, 5) for place in range(60)] + [(7, 0)] * 140
            self.assert_truth(True, shows_cheapest((0, 60), SIXTY_TOUCHING, [5] * 60, list(range(60)), rents))
            self.assert_truth(False, shows_cheapest((0, 60), SIXTY_TOUCHING, [5] * 60, list(range(200)), rents))
            self.assert_truth(False, shows_cheapest((0, 60), SIXTY_TOUCHING, [0] * 60, [0] * 200, [(FAR, FAR)] * 200))
            self.assert_truth(False, shows_cheapest(LINE, [LINE], [1], [-FAR] * 200, [(-FAR, -FAR)] * 200))

    def test_what_was_told_with_one_thing_changed(self):
        chance = random.Random(110)
        for spans in chance_lists(111, 60):
            costs = [chance.randint(1, 50) for span in spans]
            word, chosen, rents = cheapest(spans[0], spans, costs)
            for at in range(len(chosen)):
                fewer = chosen[:at] + chosen[at + 1:]
                self.assert_truth(False, shows_cheapest(spans[0], spans, costs, fewer, rents))
                self.assert_truth(False, shows_cheapest(spans[0], spans, costs, chosen + [chosen[at]], rents))
            for at, (place, rent) in enumerate(rents):
                for changed in ([(place, rent - 1)], [(place, rent + 1)], [(FAR, rent)], []):
                    other = rents[:at] + changed + rents[at + 1:]
                    self.assert_truth(False, shows_cheapest(spans[0], spans, costs, chosen, other))


class OwnTest(AskCase):
    def test_nothing_handed_in_changes_and_what_is_told_is_the_askers_own(self):
        for spans in NAMED_LISTS.values():
            costs = [7 * number % 10 for number in range(len(spans))]
            for span in [(0, 1), LINE] + spans[:2]:
                self.assert_own(lambda some, others: cheapest(span, some, others), list(spans), list(costs))

    def test_nothing_handed_to_the_looker_changes(self):
        ask = lambda spans, costs, chosen, rents: shows_cheapest((0, 9), spans, costs, chosen, rents)
        self.assert_own(ask, [(0, 4), (3, 7), (6, 9), (0, 9)], [3, 4, 5, 13], [2, 0, 1], [(8, 5), (5, 4), (0, 3)])


if __name__ == "__main__":
    unittest.main()
