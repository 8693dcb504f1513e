"""Points 2, 3, 4 and 8: the fewest rows, a place that is so deep, and the looker."""

import itertools
import random
import unittest

from helper import (
    AskCase,
    FAR,
    GREATEST,
    LEAST,
    LINE,
    NAMED_LISTS,
    NO_SPANS,
    SIXTY_NESTED,
    SIXTY_STAIRS,
    SIXTY_TOUCHING,
    any_two_apart,
    chance_lists,
    slow_depth,
    small_lists,
    soon,
    spans_up_to,
)
from spanshelf.errors import NoSpan
from spanshelf.rows import rows_of, shows_rows


def rows_are_apart(spans, rows):
    return all(any_two_apart([span for span, other in zip(spans, rows) if other == row]) for row in set(rows))


def slow_shows(spans, rows, place):
    """Say the document's words one by one."""
    if len(rows) != len(spans) or (place is None) != (spans == []):
        return False
    if place is not None and not set(rows) <= set(range(slow_depth(spans, place))):
        return False
    return rows_are_apart(spans, rows)


def slow_fewest(spans):
    many = 0
    while True:
        if any(rows_are_apart(spans, rows) for rows in itertools.product(range(many), repeat=len(spans))):
            return many
        many += 1


class RowsOfTest(AskCase):
    def assert_told_right(self, spans):
        with soon():
            told = rows_of(spans)
        self.assertIs(told.__class__, tuple)
        rows, place = told
        self.assertIs(rows.__class__, list)
        self.assertEqual(len(rows), len(spans))
        self.assertTrue(rows_are_apart(spans, rows), (spans, told))
        self.assert_truth(True, shows_rows(spans, rows, place), (spans, told))
        if spans:
            many = max(rows) + 1
            self.assertEqual(sorted(set(rows)), list(range(many)))
            self.assertEqual(slow_depth(spans, place), many)
        else:
            self.assertEqual(told, ([], None))

    def test_small_lists_and_nothing_better_by_all_rows(self):
        for spans in small_lists():
            self.assert_told_right(spans)
            if len(spans) < 5:
                self.assertEqual(len(set(rows_of(spans)[0])), slow_fewest(spans), spans)

    def test_named_lists_and_lists_by_chance(self):
        for spans in list(NAMED_LISTS.values()) + list(chance_lists(81, 200)):
            self.assert_told_right(spans)
            self.assert_told_right(spans[::-1])

    def test_the_empty_list(self):
        self.assertEqual(rows_of([]), ([], None))

    def test_how_many(self):
        wanted = {
            "one": 1,
            "the same five times": 5,
            "two that touch": 1,
            "a row that touches": 1,
            "twice two that touch": 2,
            "the whole line": 1,
            "ends of the line": 3,
            "below nought": 2,
            "sixty stairs": 15,
            "sixty nested": 60,
            "sixty touching": 1,
            "sixty times the line": 60,
        }
        for name, many in wanted.items():
            rows, place = rows_of(NAMED_LISTS[name])
            self.assertEqual(max(rows) + 1, many, name)

    def test_refuses_no_span_at_any_place_of_the_list(self):
        for wrong in NO_SPANS:
            for spans in ([wrong], [wrong, (0, 1)], [(0, 1), wrong, (2, 3)], [(0, 1), wrong]):
                self.assert_refused(NoSpan, rows_of, spans)

    def test_own(self):
        for spans in NAMED_LISTS.values():
            self.assert_own(rows_of, list(spans))

    def test_a_refusal_between_changes_no_answer(self):
        told = rows_of(SIXTY_STAIRS)
        self.assert_refused(NoSpan, rows_of, SIXTY_STAIRS + [(1, 1)])
        self.assertEqual(rows_of(SIXTY_STAIRS), told)


class ShowsRowsTest(AskCase):
    def test_every_small_paper(self):
        spans_of_all = [list(row) for many in range(4) for row in itertools.product(spans_up_to(3), repeat=many)]
        papers = [list(row) for many in range(5) for row in itertools.product(range(-1, 4), repeat=many)]
        let_by = 0
        for spans in spans_of_all[::3]:
            for rows in papers:
                if abs(len(rows) - len(spans)) > 1:
                    continue
                for place in [None, -1, 0, 1, 2, 3]:
                    wanted = slow_shows(spans, rows, place)
                    let_by += wanted
                    self.assert_truth(wanted, shows_rows(spans, rows, place), (spans, rows, place))
        self.assertGreater(let_by, 300)

    def test_right_papers_with_the_rows_in_other_orders(self):
        spans = [(0, 5), (3, 9), (4, 7), (5, 6)]
        for names in itertools.permutations(range(3)):
            self.assert_truth(True, shows_rows(spans, [names[row] for row in (0, 1, 2, 0)], 4), names)
        chance = random.Random(82)
        for spans in chance_lists(83, 60):
            rows, place = rows_of(spans)
            names = list(range(max(rows) + 1))
            chance.shuffle(names)
            self.assert_truth(True, shows_rows(spans, [names[row] for row in rows], place))

    def test_any_place_that_is_so_deep(self):
        spans = [(0, 5), (3, 9), (20, 25), (21, 24)]
        for place in (3, 4, 21, 23):
            self.assert_truth(True, shows_rows(spans, [0, 1, 1, 0], place), place)
        for place in (2, 5, 20, 24, 25, 12, -1):
            self.assert_truth(False, shows_rows(spans, [0, 1, 1, 0], place), place)

    def test_rows_need_not_be_told_by_lows(self):
        self.assert_truth(True, shows_rows([(0, 2), (2, 4), (0, 4)], [1, 1, 0], 3))
        self.assert_truth(False, shows_rows([(0, 2), (2, 4), (0, 4)], [1, 0, 0], 3))

    def test_the_spans_that_hold_the_place_need_a_row_each(self):
        self.assert_truth(True, shows_rows([(0, 5), (0, 5)], [1, 0], 0))
        self.assert_truth(False, shows_rows([(0, 5), (0, 5)], [1, 1], 0))

    def test_empty_lists_and_none(self):
        self.assert_truth(True, shows_rows([], [], None))
        for place in (0, -1, FAR, -FAR):
            self.assert_truth(False, shows_rows([], [], place))
            self.assert_truth(False, shows_rows([], [0], place))
        self.assert_truth(False, shows_rows([], [0], None))
        self.assert_truth(False, shows_rows([(0, 5)], [0], None))
        self.assert_truth(False, shows_rows([(0, 5)], [], None))
        self.assert_truth(False, shows_rows([(0, 5)], [], 3))

    def test_too_few_and_too_many(self):
        spans = [(0, 5), (3, 9)]
        self.assert_truth(True, shows_rows(spans, [0, 1], 4))
        for rows in ([], [0], [1], [0, 1, 0], [0, 1, 1], [0, 1, 2], [0, 0], [1, 1]):
            self.assert_truth(False, shows_rows(spans, rows, 4), rows)

    def test_rows_too_great_and_below_nought(self):
        spans = [(0, 5), (3, 9)]
        for rows in ([0, 2], [2, 1], [0, -1], [-1, 0], [-2, -1], [1, 2], [0, FAR], [-FAR, 0], [FAR, -FAR]):
            self.assert_truth(False, shows_rows(spans, rows, 4), rows)

    def test_spans_apart_may_not_take_more_rows_than_the_place_is_deep(self):
        self.assert_truth(False, shows_rows([(0, 5), (5, 9)], [0, 1], 4))
        self.assert_truth(True, shows_rows([(0, 5), (5, 9)], [0, 0], 4))
        self.assert_truth(True, shows_rows([(0, 5), (5, 9)], [0, 0], 5))
        self.assert_truth(False, shows_rows([(0, 6), (5, 9)], [0, 0], 4))

    def test_places_that_no_span_holds_and_far_beyond(self):
        for place in (GREATEST, GREATEST + 1, LEAST - 1, FAR, -FAR):
            self.assert_truth(False, shows_rows([LINE], [0], place))
            self.assert_truth(False, shows_rows([LINE] * 60, list(range(60)), place))
        for place in (LEAST, 0, GREATEST - 1):
            self.assert_truth(True, shows_rows([LINE], [0], place))
            self.assert_truth(True, shows_rows([LINE] * 60, list(range(60))[::-1], place))
        self.assert_truth(False, shows_rows([(0, 5), (7, 9)], [0, 0], 5))
        self.assert_truth(False, shows_rows([(0, 5), (7, 9)], [0, 0], 6))

    def test_lists_of_two_hundred(self):
        with soon():
            self.assert_truth(False, shows_rows(SIXTY_TOUCHING, [0] * 200, 5))
            self.assert_truth(False, shows_rows(SIXTY_NESTED, list(range(200)), 0))
            self.assert_truth(False, shows_rows([], [0] * 200, None))
            self.assert_truth(False, shows_rows(SIXTY_NESTED, [FAR] * 200, FAR))
            self.assert_truth(True, shows_rows(SIXTY_TOUCHING, [0] * 60, 5))
            self.assert_truth(True, shows_rows(SIXTY_NESTED, list(range(60)), 0))

    def test_what_was_told_with_one_thing_changed(self):
        for spans in chance_lists(84, 60):
            rows, place = rows_of(spans)
            many = max(rows) + 1
            self.assert_truth(False, shows_rows(spans, rows, None))
            self.assert_truth(False, shows_rows(spans, rows + [0], place))
            self.assert_truth(False, shows_rows(spans, rows[:-1], place))
            for at in range(len(rows)):
                for other in (-1, 0, many - 1, many):
                    changed = rows[:at] + [other] + rows[at + 1:]
                    self.assert_truth(slow_shows(spans, changed, place), shows_rows(spans, changed, place))

    def test_refuses_no_span_whatever_the_paper(self):
        for wrong in NO_SPANS:
            for spans in ([wrong], [wrong, (0, 1)], [(0, 1), wrong, (2, 3)], [(0, 1), wrong]):
                for rows, place in (([], None), ([0], 0), ([0, 0], FAR), ([-1, 99, 3], -FAR)):
                    self.assert_refused(NoSpan, shows_rows, spans, rows, place)

    def test_nothing_handed_in_changes(self):
        self.assert_own(lambda spans, rows: shows_rows(spans, rows, 4), [(0, 5), (3, 9), (5, 6)], [1, 0, 1])


if __name__ == "__main__":
    unittest.main()
