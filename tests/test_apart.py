"""Points 2, 3, 4 and 7: the most that lie apart, the pins that pierce all, and the looker."""

import itertools
import unittest

from helper import (
    AskCase,
    FAR,
    GREATEST,
    LEAST,
    LINE,
    NAMED_LISTS,
    NO_SPANS,
    SIXTY_STAIRS,
    SIXTY_TOUCHING,
    any_two_apart,
    chance_lists,
    holds,
    small_lists,
    soon,
    spans_up_to,
    subsets,
)
from spanshelf.apart import most_apart, shows_apart
from spanshelf.errors import NoSpan


def slow_shows(spans, chosen, pins):
    """Say the document's words one by one."""
    if sorted(set(chosen)) != sorted(chosen) or not set(chosen) <= set(range(len(spans))):
        return False
    if not any_two_apart([spans[number] for number in chosen]):
        return False
    return len(pins) == len(chosen) and all(any(holds(span, pin) for pin in pins) for span in spans)


def slow_most(spans):
    return max(len(chosen) for chosen in subsets(len(spans)) if any_two_apart([spans[k] for k in chosen]))


class MostApartTest(AskCase):
    def assert_told_right(self, spans):
        with soon():
            told = most_apart(spans)
        self.assertIs(told.__class__, tuple)
        chosen, pins = told
        self.assertEqual({chosen.__class__, pins.__class__}, {list})
        for rising in (chosen, pins):
            self.assertTrue(all(ahead < behind for ahead, behind in zip(rising, rising[1:])), told)
        self.assertTrue(slow_shows(spans, chosen, pins), (spans, told))
        self.assert_truth(True, shows_apart(spans, chosen, pins), (spans, told))
        for pin in pins:
            self.assertTrue(LEAST <= pin <= GREATEST)

    def test_small_lists_and_nothing_better_by_all_choices(self):
        for spans in small_lists():
            self.assert_told_right(spans)
            self.assertEqual(len(most_apart(spans)[0]), slow_most(spans), spans)

    def test_named_lists_and_lists_by_chance(self):
        for spans in list(NAMED_LISTS.values()) + list(chance_lists(71, 200)):
            self.assert_told_right(spans)
            self.assert_told_right(spans[::-1])

    def test_the_empty_list(self):
        self.assertEqual(most_apart([]), ([], []))

    def test_how_many(self):
        wanted = {
            "one": 1,
            "the same five times": 1,
            "two that touch": 2,
            "a row that touches": 4,
            "twice two that touch": 2,
            "the whole line": 1,
            "ends of the line": 2,
            "below nought": 2,
            "sixty nested": 1,
            "sixty touching": 60,
            "sixty times the line": 1,
        }
        for name, many in wanted.items():
            chosen, pins = most_apart(NAMED_LISTS[name])
            self.assertEqual((len(chosen), len(pins)), (many, many), name)

    def test_a_long_span_ahead_does_not_hide_two_short_ones(self):
        self.assertEqual(most_apart([(0, 9), (1, 3), (4, 6)])[0], [1, 2])

    def test_refuses_no_span_at_any_place_of_the_list(self):
        for wrong in NO_SPANS:
            for spans in ([wrong], [wrong, (0, 1)], [(0, 1), wrong, (2, 3)], [(0, 1), wrong]):
                self.assert_refused(NoSpan, most_apart, spans)

    def test_own(self):
        for spans in NAMED_LISTS.values():
            self.assert_own(most_apart, list(spans))

    def test_a_refusal_between_changes_no_answer(self):
        told = most_apart(SIXTY_STAIRS)
        self.assert_refused(NoSpan, most_apart, SIXTY_STAIRS + [(1, 1)])
        self.assertEqual(most_apart(SIXTY_STAIRS), told)


class ShowsApartTest(AskCase):
    def test_every_small_paper(self):
        spans_of_all = [list(row) for many in range(4) for row in itertools.product(spans_up_to(3), repeat=many)]
        numbers = [list(row) for many in range(4) for row in itertools.product(range(-1, 4), repeat=many)]
        pins = [list(row) for many in range(4) for row in itertools.combinations_with_replacement(range(-1, 4), many)]
        let_by = 0
        for spans in spans_of_all[::3]:
            for chosen in numbers:
                if sorted(set(chosen)) != sorted(chosen):
                    continue
                for some in pins:
                    if abs(len(some) - len(chosen)) > 1:
                        continue
                    wanted = slow_shows(spans, chosen, some)
                    let_by += wanted
                    self.assert_truth(wanted, shows_apart(spans, chosen, some), (spans, chosen, some))
        self.assertGreater(let_by, 100)

    def test_right_papers_in_any_order(self):
        spans = [(6, 8), (0, 2), (4, 6), (0, 9)]
        for chosen in itertools.permutations([0, 1, 2]):
            for pins in itertools.permutations([7, 1, 4]):
                self.assert_truth(True, shows_apart(spans, list(chosen), list(pins)))
        chosen, pins = most_apart(SIXTY_TOUCHING)
        self.assert_truth(True, shows_apart(SIXTY_TOUCHING, chosen[::-1], pins[::-1]))
        self.assert_truth(True, shows_apart(SIXTY_TOUCHING, chosen, pins[30:] + pins[:30]))

    def test_right_papers_that_are_not_the_ones_told(self):
        spans = [(0, 5), (3, 9), (0, 5)]
        for number in range(3):
            for pin in (3, 4):
                self.assert_truth(True, shows_apart(spans, [number], [pin]))
            for pin in (2, 5, -1, 9):
                self.assert_truth(False, shows_apart(spans, [number], [pin]))

    def test_spans_that_touch_are_apart(self):
        self.assert_truth(True, shows_apart([(0, 5), (5, 9)], [0, 1], [4, 5]))
        self.assert_truth(False, shows_apart([(0, 6), (5, 9)], [0, 1], [4, 6]))

    def test_a_pin_at_the_high_pierces_nothing(self):
        self.assert_truth(False, shows_apart([(0, 5)], [0], [5]))
        self.assert_truth(True, shows_apart([(0, 5)], [0], [0]))
        self.assert_truth(False, shows_apart([(0, 5)], [0], [-1]))

    def test_empty_lists(self):
        self.assert_truth(True, shows_apart([], [], []))
        self.assert_truth(False, shows_apart([], [0], [0]))
        self.assert_truth(False, shows_apart([], [], [0]))
        self.assert_truth(False, shows_apart([], [0], []))
        self.assert_truth(False, shows_apart([(0, 5)], [], []))
        self.assert_truth(False, shows_apart([(0, 5)], [], [3]))
        self.assert_truth(False, shows_apart([(0, 5)], [0], []))

    def test_wrong_numbers(self):
        spans = [(0, 2), (4, 6)]
        self.assert_truth(True, shows_apart(spans, [0, 1], [1, 4]))
        for chosen in ([0, 0], [1, 1], [0, 2], [0, -1], [-2, -1], [-1, 0], [0, FAR], [-FAR, 1], [0], [0, 1, 1], [0, 1, 2]):
            for pins in ([1, 4], [1, 4, 5], [1]):
                self.assert_truth(False, shows_apart(spans, chosen, pins), (chosen, pins))

    def test_a_number_twice_and_below_nought_of_one_span(self):
        self.assert_truth(False, shows_apart([(0, 2)], [0, 0], [1, 1]))
        self.assert_truth(False, shows_apart([(0, 2)], [-1], [1]))
        self.assert_truth(False, shows_apart([(0, 2)], [1], [1]))

    def test_wrong_pins(self):
        spans = [(0, 2), (4, 6)]
        for pins in ([1, 1], [4, 4], [1, 2], [3, 4], [1, 6], [-1, 4], [1], [4], [1, 4, 5], [1, FAR], [-FAR, FAR], []):
            self.assert_truth(False, shows_apart(spans, [0, 1], pins), pins)

    def test_too_few_pins_for_a_span_that_was_not_chosen(self):
        self.assert_truth(False, shows_apart([(0, 2), (1, 9), (4, 6), (7, 12)], [0, 2], [0, 5]))
        self.assert_truth(False, shows_apart([(0, 9), (1, 2), (3, 4)], [0], [1]))

    def test_two_that_meet(self):
        self.assert_truth(False, shows_apart([(0, 9), (1, 2), (3, 4)], [0, 1], [1, 3]))
        self.assert_truth(False, shows_apart([(0, 9), (1, 2), (3, 4)], [2, 0], [1, 3]))
        self.assert_truth(False, shows_apart([(0, 3), (0, 3)], [0, 1], [0, 1]))

    def test_far_beyond_all_places(self):
        for far in (GREATEST, GREATEST + 1, LEAST - 1, FAR, -FAR):
            self.assert_truth(False, shows_apart([LINE], [0], [far]))
            self.assert_truth(False, shows_apart([LINE], [far], [0]))
        self.assert_truth(True, shows_apart([LINE], [0], [LEAST]))
        self.assert_truth(True, shows_apart([LINE], [0], [GREATEST - 1]))

    def test_lists_of_two_hundred(self):
        spans = SIXTY_TOUCHING
        with soon():
            self.assert_truth(False, shows_apart(spans, list(range(200)), list(range(200))))
            self.assert_truth(False, shows_apart(spans, list(range(60)), list(range(200))))
            self.assert_truth(False, shows_apart(spans, list(range(200)), list(range(60))))
            self.assert_truth(False, shows_apart(spans, [0] * 200, [FAR] * 200))
            self.assert_truth(False, shows_apart(spans, [-FAR] * 200, [-FAR] * 200))

    def test_what_was_told_with_one_thing_changed(self):
        for spans in chance_lists(72, 60):
            chosen, pins = most_apart(spans)
            for at in range(len(chosen)):
                self.assert_truth(False, shows_apart(spans, chosen[:at] + chosen[at + 1:], pins))
                self.assert_truth(False, shows_apart(spans, chosen, pins[:at] + pins[at + 1:]))
                self.assert_truth(False, shows_apart(spans, chosen[:at] + chosen[at + 1:], pins[:at] + pins[at + 1:]))
                self.assert_truth(False, shows_apart(spans, chosen, pins[:at] + [FAR] + pins[at + 1:]))
                moved = pins[:at] + [spans[chosen[at]][1]] + pins[at + 1:]
                self.assert_truth(slow_shows(spans, chosen, moved), shows_apart(spans, chosen, moved))

    def test_refuses_no_span_whatever_the_paper(self):
        for wrong in NO_SPANS:
            for spans in ([wrong], [wrong, (0, 1)], [(0, 1), wrong, (2, 3)], [(0, 1), wrong]):
                for chosen, pins in (([], []), ([0], [0]), ([-5, 99], [FAR]), ([0, 0], [])):
                    self.assert_refused(NoSpan, shows_apart, spans, chosen, pins)

    def test_nothing_handed_in_changes(self):
        spans, chosen, pins = [(6, 8), (0, 2), (4, 6), (0, 9)], [2, 0, 1], [7, 4, 1]
        self.assert_own(shows_apart, spans, chosen, pins)


if __name__ == "__main__":
    unittest.main()
