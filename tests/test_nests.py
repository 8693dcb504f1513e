"""Points 2, 3, 4 and 13: the longest nest with levels, loose spans with nests that hold all, and both lookers."""

import itertools
import random
import unittest

from helper import (
    AskCase,
    FAR,
    LINE,
    NAMED_LISTS,
    NO_SPANS,
    SIXTY_NESTED,
    SIXTY_OF_TWELVE_FIGURES,
    SIXTY_STAIRS,
    SIXTY_TOUCHING,
    are_numbers_of,
    are_rising,
    chance_lists,
    small_lists,
    soon,
    spans_up_to,
    subsets,
    with_wrong_span,
)
from spanshelf.errors import NoSpan
from spanshelf.nests import loose, nest, shows_loose, shows_nest


def slow_under(spans, number, other):
    one, around = spans[number], spans[other]
    if one == around:
        return number < other
    return around[0] <= one[0] and one[1] <= around[1]


def is_slow_nest(spans, numbers):
    if not set(numbers) <= set(range(len(spans))):
        return False
    return all(slow_under(spans, numbers[at], numbers[at + 1]) for at in range(len(numbers) - 1))


def are_slow_loose(spans, numbers):
    return not any(slow_under(spans, one, other) for one, other in itertools.permutations(numbers, 2))


def slow_shows_nest(spans, told):
    """Say the document's words one by one."""
    numbers, levels = told
    if not is_slow_nest(spans, numbers):
        return False
    if len(levels) != len(spans) or not set(levels) <= set(range(len(numbers))):
        return False
    return all(levels[one] < levels[other] for one, other in itertools.permutations(range(len(spans)), 2)
               if slow_under(spans, one, other))


def slow_shows_loose(spans, told):
    """Say the document's words one by one."""
    numbers, nests = told
    if not are_numbers_of(numbers, spans) or not are_slow_loose(spans, numbers):
        return False
    if len(nests) != len(numbers) or not all(is_slow_nest(spans, one) for one in nests):
        return False
    return all(sum(one.count(number) for one in nests) == 1 for number in range(len(spans)))


def slow_longest(spans):
    """Go through all choices: in a nest any two of the chosen lie under one another, one way or the other."""
    return max(len(chosen) for chosen in subsets(len(spans))
               if all(slow_under(spans, one, other) or slow_under(spans, other, one)
                      for one, other in itertools.combinations(chosen, 2)))


def slow_most_loose(spans):
    return max(len(chosen) for chosen in subsets(len(spans)) if are_slow_loose(spans, chosen))


class NestTest(AskCase):
    def assert_told_right(self, spans):
        with soon():
            told = nest(spans)
        about = (spans, told)
        self.assertEqual([told.__class__] + [one.__class__ for one in told], [tuple, list, list], about)
        self.assertTrue(slow_shows_nest(spans, told), about)
        self.assert_truth(True, shows_nest(spans, told), about)
        return len(told[0])

    def test_small_lists_and_nothing_better_by_all_nests(self):
        for spans in small_lists():
            self.assertEqual(self.assert_told_right(spans), slow_longest(spans), spans)

    def test_named_lists_and_lists_by_chance(self):
        for spans in list(NAMED_LISTS.values()) + list(chance_lists(131, 200)):
            self.assertEqual(self.assert_told_right(spans), self.assert_told_right(spans[::-1]))

    def test_the_empty_list(self):
        self.assertEqual(nest([]), ([], []))

    def test_one_span(self):
        for span in ((4, 9), LINE):
            self.assertEqual(nest([span]), ([0], [0]))

    def test_alike_spans_lie_under_one_another_by_their_numbers(self):
        self.assertEqual(nest([(4, 9)] * 5), ([0, 1, 2, 3, 4], [0, 1, 2, 3, 4]))
        self.assertEqual(nest([LINE] * 60), (list(range(60)), list(range(60))))

    def test_how_many(self):
        wanted = {
            "none": 0,
            "one": 1,
            "the same five times": 5,
            "two that touch": 1,
            "a row that touches": 1,
            "twice two that touch": 2,
            "the whole line": 1,
            "ends of the line": 3,
            "below nought": 1,
            "sixty stairs": 1,
            "sixty nested": 60,
            "sixty touching": 1,
            "sixty times the line": 60,
        }
        for name, many in wanted.items():
            self.assertEqual(self.assert_told_right(NAMED_LISTS[name]), many, name)

    def test_spans_that_share_an_end_lie_under_one_another(self):
        self.assertEqual(nest([(0, 9), (0, 5), (0, 2)]), ([2, 1, 0], [2, 1, 0]))
        self.assertEqual(nest([(0, 9), (5, 9), (7, 9)]), ([2, 1, 0], [2, 1, 0]))

    def test_refuses_no_span_at_any_place_of_the_list(self):
        for wrong in NO_SPANS:
            for spans in with_wrong_span(wrong):
                self.assert_refused(NoSpan, nest, spans)

    def test_own(self):
        for spans in NAMED_LISTS.values():
            self.assert_own(nest, list(spans))

    def test_a_refusal_between_changes_no_answer(self):
        told = nest(SIXTY_NESTED)
        self.assert_refused(NoSpan, nest, SIXTY_NESTED + [(1, 1)])
        self.assertEqual(nest(SIXTY_NESTED), told)


class ShowsNestTest(AskCase):
    def test_every_small_paper(self):
        spans_of_all = [list(row) for many in range(4) for row in itertools.product(spans_up_to(2), repeat=many)]
        numbers_of_all = [list(row) for many in range(4) for row in itertools.product(range(-1, 4), repeat=many)]
        levels_of_all = [list(row) for many in range(4) for row in itertools.product(range(-1, 4), repeat=many)]
        let_by = 0
        for spans in spans_of_all:
            levels_near = [levels for levels in levels_of_all if abs(len(levels) - len(spans)) <= (len(spans) < 2)]
            for numbers in numbers_of_all:
                if len(set(numbers)) < len(numbers) or (numbers and min(numbers) < 0 and len(numbers) > 1):
                    continue
                for levels in levels_near:
                    told = (numbers, levels)
                    wanted = slow_shows_nest(spans, told)
                    let_by += wanted
                    self.assert_truth(wanted, shows_nest(spans, told), (spans, told))
        self.assertGreater(let_by, 50)

    def test_right_papers_that_are_not_the_ones_told(self):
        spans = [(0, 9), (1, 3), (5, 7), (20, 21)]
        for inner in (1, 2):
            for level in (0, 1):
                self.assert_truth(True, shows_nest(spans, ([inner, 0], [1, 0, 0, level])))
        self.assert_truth(True, shows_nest([(4, 5), (6, 7)], ([1], [0, 0])))

    def test_levels_too_great_and_below_nought(self):
        spans = [(0, 9), (1, 3)]
        self.assert_truth(True, shows_nest(spans, ([1, 0], [1, 0])))
        for levels in ([2, 0], [2, 1], [1, -1], [0, -1], [FAR, 0], [1, -FAR], [3, 2]):
            self.assert_truth(False, shows_nest(spans, ([1, 0], levels)), levels)

    def test_levels_alike_or_turned_where_one_span_is_under_another(self):
        spans = [(0, 9), (1, 3), (20, 29), (22, 25)]
        self.assert_truth(True, shows_nest(spans, ([1, 0], [1, 0, 1, 0])))
        for levels in ([1, 0, 0, 0], [1, 0, 1, 1], [1, 0, 0, 1], [0, 0, 1, 0], [0, 1, 1, 0]):
            self.assert_truth(False, shows_nest(spans, ([1, 0], levels)), levels)
        self.assert_truth(True, shows_nest([(4, 9)] * 2, ([0, 1], [0, 1])))
        self.assert_truth(False, shows_nest([(4, 9)] * 2, ([0, 1], [1, 0])))
        self.assert_truth(False, shows_nest([(4, 9)] * 2, ([1, 0], [0, 1])))
        self.assert_truth(False, shows_nest([(4, 9)] * 2, ([1, 0], [1, 0])))
        self.assert_truth(False, shows_nest([(4, 9)] * 2, ([0], [0, 0])))

    def test_levels_of_spans_that_lie_far_apart_in_the_order(self):
        spans = [(0, 9), (1, 8), (2, 7)]
        self.assert_truth(True, shows_nest(spans, ([2, 1, 0], [2, 1, 0])))
        for levels in ([0, 1, 2], [2, 2, 0], [1, 1, 0], [2, 0, 1], [1, 2, 0]):
            self.assert_truth(False, shows_nest(spans, ([2, 1, 0], levels)), levels)

    def test_too_few_and_too_many_levels(self):
        spans = [(0, 9), (1, 3)]
        for levels in ([], [1], [0], [1, 0, 0], [1, 0, 1], [1, 0, 5]):
            self.assert_truth(False, shows_nest(spans, ([1, 0], levels)), levels)

    def test_wrong_numbers(self):
        spans, levels = [(0, 9), (1, 3)], [1, 0]
        for numbers in ([0, 1], [1, 1], [0, 0], [1, -2], [-1, 0], [-1, -2], [1, 2], [2, 0], [1, FAR], [-FAR, 0],
                        [1, 0, 0], [1, 1, 0], [1], [0], []):
            self.assert_truth(False, shows_nest(spans, (numbers, levels)), numbers)
        # More levels than are used do not help where the nest is none.
        self.assert_truth(False, shows_nest([(0, 3), (2, 5)], ([0, 1], [0, 0])))
        self.assert_truth(False, shows_nest([(0, 3), (3, 5)], ([0, 1], [0, 1])))

    def test_a_nest_of_which_only_the_ends_lie_under_one_another(self):
        spans = [(0, 9), (5, 12), (2, 4)]
        self.assert_truth(False, shows_nest(spans, ([2, 1, 0], [2, 1, 0])))
        self.assert_truth(True, shows_nest(spans, ([2, 0], [1, 0, 0])))

    def test_a_nest_that_is_not_the_longest(self):
        spans = [(0, 9), (1, 8), (2, 7)]
        for numbers in ([2, 1], [1, 0], [2, 0], [0], [1], [2]):
            for levels in itertools.product(range(3), repeat=3):
                self.assert_truth(False, shows_nest(spans, (numbers, list(levels))))

    def test_empty_lists(self):
        self.assert_truth(True, shows_nest([], ([], [])))
        self.assert_truth(False, shows_nest([], ([0], [])))
        self.assert_truth(False, shows_nest([], ([0], [0])))
        self.assert_truth(False, shows_nest([], ([], [0])))
        self.assert_truth(False, shows_nest([], ([-1], [])))
        self.assert_truth(False, shows_nest([(0, 9)], ([], [])))
        self.assert_truth(False, shows_nest([(0, 9)], ([], [0])))
        self.assert_truth(False, shows_nest([(0, 9)], ([0], [])))
        self.assert_truth(True, shows_nest([(0, 9)], ([0], [0])))

    def test_lists_of_two_hundred(self):
        with soon():
            for spans in (SIXTY_NESTED, SIXTY_TOUCHING, [LINE] * 60, []):
                for numbers in (list(range(200)), [0] * 200, [-1] * 200, [FAR] * 200):
                    for levels in (list(range(200)), [0] * 200, [-FAR] * 200, [0] * 60):
                        self.assert_truth(False, shows_nest(spans, (numbers, levels)))
            self.assert_truth(True, shows_nest([LINE] * 60, (list(range(60)), list(range(60)))))

    def test_what_was_told_with_one_thing_changed(self):
        for spans in chance_lists(132, 40):
            numbers, levels = nest(spans)
            for at in range(len(numbers)):
                for other in ([], [numbers[at]] * 2, [-1], [len(spans)], [0]):
                    changed = (numbers[:at] + other + numbers[at + 1:], levels)
                    self.assert_truth(slow_shows_nest(spans, changed), shows_nest(spans, changed))
            for at in range(len(levels)):
                for other in (levels[at] - 1, levels[at] + 1, len(numbers)):
                    changed = (numbers, levels[:at] + [other] + levels[at + 1:])
                    self.assert_truth(slow_shows_nest(spans, changed), shows_nest(spans, changed))

    def test_refuses_no_span_whatever_the_paper(self):
        for wrong in NO_SPANS:
            for spans in with_wrong_span(wrong):
                for told in (([], []), ([0], [0]), ([-5, 99], [FAR]), ([0, 0], [])):
                    self.assert_refused(NoSpan, shows_nest, spans, told)

    def test_nothing_handed_in_changes(self):
        self.assert_own(lambda spans, one, other: shows_nest(spans, (one, other)), [(0, 9), (1, 3)], [1, 0], [1, 0])


class LooseTest(AskCase):
    def assert_told_right(self, spans):
        with soon():
            told = loose(spans)
        about = (spans, told)
        self.assertEqual([told.__class__] + [one.__class__ for one in told], [tuple, list, list], about)
        self.assertTrue(all(one.__class__ is list for one in told[1]), about)
        self.assertTrue(are_rising(told[0]), about)
        self.assertTrue(slow_shows_loose(spans, told), about)
        self.assert_truth(True, shows_loose(spans, told), about)
        return len(told[0])

    def test_small_lists_and_nothing_better_by_all_choices(self):
        for spans in small_lists():
            self.assertEqual(self.assert_told_right(spans), slow_most_loose(spans), spans)

    def test_wider_lists_by_chance_and_nothing_better_by_all_choices(self):
        chance = random.Random(133)
        for turn in range(150):
            spans = [chance.choice(spans_up_to(8)) for at in range(8)]
            self.assertEqual(self.assert_told_right(spans), slow_most_loose(spans), spans)

    def test_named_lists_and_lists_by_chance(self):
        for spans in list(NAMED_LISTS.values()) + list(chance_lists(134, 200)):
            self.assertEqual(self.assert_told_right(spans), self.assert_told_right(spans[::-1]))

    def test_the_empty_list(self):
        self.assertEqual(loose([]), ([], []))

    def test_one_span(self):
        for span in ((4, 9), LINE):
            self.assertEqual(loose([span]), ([0], [[0]]))

    def test_alike_spans_make_one_nest(self):
        numbers, nests = loose([(4, 9)] * 5)
        self.assertEqual((len(numbers), nests), (1, [[0, 1, 2, 3, 4]]))

    def test_how_many(self):
        wanted = {
            "none": 0,
            "one": 1,
            "the same five times": 1,
            "two that touch": 2,
            "a row that touches": 4,
            "twice two that touch": 2,
            "the whole line": 1,
            "ends of the line": 2,
            "below nought": 3,
            "sixty stairs": 60,
            "sixty nested": 1,
            "sixty touching": 60,
            "sixty times the line": 1,
        }
        for name, many in wanted.items():
            self.assertEqual(self.assert_told_right(NAMED_LISTS[name]), many, name)

    def test_sixty_of_twelve_figures(self):
        self.assert_told_right(SIXTY_OF_TWELVE_FIGURES)
        self.assertEqual(self.assert_told_right(SIXTY_STAIRS), 60)

    def test_refuses_no_span_at_any_place_of_the_list(self):
        for wrong in NO_SPANS:
            for spans in with_wrong_span(wrong):
                self.assert_refused(NoSpan, loose, spans)

    def test_own_and_no_nest_stands_at_two_places(self):
        for spans in NAMED_LISTS.values():
            self.assert_own(loose, list(spans))

    def test_a_refusal_between_changes_no_answer(self):
        told = loose(SIXTY_STAIRS)
        self.assert_refused(NoSpan, loose, SIXTY_STAIRS + [(1, 1)])
        self.assertEqual(loose(SIXTY_STAIRS), told)


class ShowsLooseTest(AskCase):
    def test_every_small_paper_of_three_spans(self):
        rows = [list(row) for many in range(4) for row in itertools.permutations(range(3), many)] + [[-1], [3], [0, 0]]
        nests_of_all = [[list(one) for one in row] for many in range(4)
                        for row in itertools.product([[], [0], [1], [2], [0, 1], [1, 0], [1, 2], [2, 1], [0, 2], [2, 0],
                                                      [0, 1, 2], [2, 1, 0], [3], [-1], [0, 0]], repeat=many)]
        nests_of_all = [nests for nests in nests_of_all if sum(len(one) for one in nests) in (3, 4) or len(nests) < 2]
        let_by = 0
        for row in itertools.product(spans_up_to(2), repeat=3):
            spans = list(row)
            for numbers in rows:
                for nests in nests_of_all[::1 if len(numbers) < 3 else 3]:
                    told = (numbers, nests)
                    wanted = slow_shows_loose(spans, told)
                    let_by += wanted
                    self.assert_truth(wanted, shows_loose(spans, told), (spans, told))
        self.assertGreater(let_by, 50)

    def test_right_papers_in_other_orders(self):
        spans = [(0, 9), (1, 3), (8, 12), (20, 25), (21, 23)]
        for numbers in itertools.permutations([0, 2, 3]):
            for nests in itertools.permutations([[1, 0], [2], [4, 3]]):
                self.assert_truth(True, shows_loose(spans, (list(numbers), [list(one) for one in nests])))
        for numbers in ([1, 2, 4], [1, 2, 3], [4, 2, 0]):
            self.assert_truth(True, shows_loose(spans, (numbers, [[1, 0], [2], [4, 3]])), numbers)
        chance = random.Random(135)
        for spans in chance_lists(136, 60):
            numbers, nests = loose(spans)
            chance.shuffle(numbers)
            chance.shuffle(nests)
            self.assert_truth(True, shows_loose(spans, (numbers, nests)))

    def test_wrong_loose_ones(self):
        spans, nests = [(0, 9), (1, 3), (8, 12)], [[1, 0], [2]]
        self.assert_truth(True, shows_loose(spans, ([0, 2], nests)))
        self.assert_truth(True, shows_loose(spans, ([2, 1], nests)))
        for numbers in ([0, 1], [1, 0], [0, 0], [2, 2], [0, 3], [0, -1], [-1, -2], [-3, 2], [FAR, 0], [0, -FAR],
                        [0], [2], [], [0, 2, 2], [0, 1, 2], [0, 2, 3]):
            self.assert_truth(False, shows_loose(spans, (numbers, nests)), numbers)

    def test_alike_spans_lie_under_one_another(self):
        self.assert_truth(False, shows_loose([(4, 9)] * 2, ([0, 1], [[0], [1]])))
        self.assert_truth(True, shows_loose([(4, 9)] * 2, ([0], [[0, 1]])))
        self.assert_truth(True, shows_loose([(4, 9)] * 2, ([1], [[0, 1]])))
        self.assert_truth(False, shows_loose([(4, 9)] * 2, ([1], [[1, 0]])))

    def test_nests_in_which_a_span_is_missing_or_stands_twice(self):
        spans = [(0, 9), (1, 3), (8, 12)]
        for nests in ([[1], [2]], [[0], [2]], [[1, 0], []], [[], [2]], [[1, 0], [0]], [[1, 0], [1]], [[1, 0], [1, 0]],
                      [[1, 0], [2, 2]], [[2], [2]], [[1, 1, 0], [2]], [[], []], [[1], [2, 0]]):
            self.assert_truth(False, shows_loose(spans, ([0, 2], nests)), nests)

    def test_nests_that_are_none(self):
        spans = [(0, 9), (1, 3), (8, 12)]
        for nests in ([[0, 1], [2]], [[1, 2], [0]], [[1, 0, 2], []], [[1, 0], [3]], [[1, 0], [2, 3]], [[1, 0], [-1]],
                      [[1, 0], [FAR]], [[-2, 0], [2]], [[1, -3], [2]], [[1, 0], [-FAR, 2]]):
            self.assert_truth(False, shows_loose(spans, ([0, 2], nests)), nests)

    def test_too_few_and_too_many_nests(self):
        spans = [(0, 9), (1, 3), (8, 12)]
        for nests in ([], [[1, 0]], [[1, 0, 2]], [[1], [0], [2]], [[1, 0], [2], []], [[1, 0], [2], [2]], [[]]):
            self.assert_truth(False, shows_loose(spans, ([0, 2], nests)), nests)
        self.assert_truth(False, shows_loose([(0, 2), (4, 6)], ([0], [[0], [1]])))

    def test_empty_lists(self):
        self.assert_truth(True, shows_loose([], ([], [])))
        self.assert_truth(False, shows_loose([], ([], [[]])))
        self.assert_truth(False, shows_loose([], ([0], [[]])))
        self.assert_truth(False, shows_loose([], ([0], [[0]])))
        self.assert_truth(False, shows_loose([], ([-1], [[-1]])))
        self.assert_truth(False, shows_loose([(0, 9)], ([], [])))
        self.assert_truth(False, shows_loose([(0, 9)], ([0], [])))
        self.assert_truth(False, shows_loose([(0, 9)], ([0], [[]])))
        self.assert_truth(False, shows_loose([(0, 9)], ([], [[0]])))
        self.assert_truth(True, shows_loose([(0, 9)], ([0], [[0]])))

    def test_lists_of_two_hundred(self):
        with soon():
            for spans in (SIXTY_NESTED, SIXTY_TOUCHING, [LINE] * 60, []):
                for numbers in (list(range(200)), [0] * 200, [-1] * 200, [FAR] * 200, list(range(60)), [0]):
                    for one in ([], [0] * 200, list(range(200)), [-FAR] * 200):
                        self.assert_truth(False, shows_loose(spans, (numbers, [list(one) for at in range(200)])))
            self.assert_truth(True, shows_loose(SIXTY_TOUCHING, (list(range(60)), [[at] for at in range(60)])))
            self.assert_truth(True, shows_loose(SIXTY_NESTED, ([7], [list(range(60))[::-1]])))

    def test_what_was_told_with_one_thing_changed(self):
        for spans in chance_lists(137, 40):
            numbers, nests = loose(spans)
            for at in range(len(numbers)):
                for other in ([], [numbers[at]] * 2, [-1], [len(spans)], [0]):
                    changed = (numbers[:at] + other + numbers[at + 1:], nests)
                    self.assert_truth(slow_shows_loose(spans, changed), shows_loose(spans, changed))
            for at, one in enumerate(nests):
                for other in ([], [one, []], [one[1:]], [one[::-1]], [one + [0]], [one, one]):
                    changed = (numbers, nests[:at] + other + nests[at + 1:])
                    self.assert_truth(slow_shows_loose(spans, changed), shows_loose(spans, changed))

    def test_refuses_no_span_whatever_the_paper(self):
        for wrong in NO_SPANS:
            for spans in with_wrong_span(wrong):
                for told in (([], []), ([0], [[0]]), ([-5, 99], [[FAR], []]), ([0, 0], [])):
                    self.assert_refused(NoSpan, shows_loose, spans, told)

    def test_nothing_handed_in_changes(self):
        self.assert_own(lambda spans, one, other: shows_loose(spans, (one, other)),
                        [(0, 9), (1, 3), (8, 12)], [2, 0], [[1, 0], [2]])


if __name__ == "__main__":
    unittest.main()
