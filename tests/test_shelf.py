"""Points 2, 3, 14 and 15: a shelf, its deeds and their refusals, back and again, and what is told of it."""

import random
import unittest

from helper import (
    AskCase,
    FAR,
    GREATEST,
    HEAVIEST,
    LEAST,
    LINE,
    NAMED_LISTS,
    NO_NAMES,
    NO_PLACES,
    NO_SPANS,
    NO_WEIGHTS,
    SIXTY_NESTED,
    SIXTY_OF_TWELVE_FIGURES,
    SIXTY_STAIRS,
    SIXTY_TOUCHING,
    answers_of,
    are_apart,
    chance_lists,
    history_of,
    holds,
    letters,
    lists_within,
    places_near,
    rows_on,
    shelf_made_of,
    shelf_of_spans,
    slow_depth,
    soon,
    states_by,
)
from spanshelf.apart import most_apart, shows_apart
from spanshelf.covers import cover_of
from spanshelf.depths import deepest, profile
from spanshelf.errors import Bare, Full, NoCount, NoDeed, NoName, NoPlace, NoSpan, NoWeight, Twice
from spanshelf.heaviest import heaviest, shows_heaviest
from spanshelf.shelf import Shelf

THREE = {"b": ((0, 5), 4), "a": ((3, 9), 6), "c": ((5, 12), 3)}


def full_shelf():
    return shelf_of_spans(SIXTY_STAIRS)


class PutTest(AskCase):
    def test_a_new_shelf_has_none(self):
        self.assertEqual(rows_on(Shelf()), {})
        self.assertEqual(history_of(Shelf()), ({}, [], []))

    def test_what_is_put_is_there(self):
        shelf = Shelf()
        self.assertIsNone(shelf.put("b", (0, 5), 4))
        self.assertIsNone(shelf.put("a", (3, 9), 0))
        self.assertEqual(rows_on(shelf), {"a": ((3, 9), 0), "b": ((0, 5), 4)})
        self.assertEqual(history_of(shelf)[1], [{"b": ((0, 5), 4)}, {}])

    def test_the_bounds_themselves(self):
        shelf = Shelf()
        shelf.put("abcdefgh", LINE, HEAVIEST)
        shelf.put("z", (GREATEST - 1, GREATEST), 0)
        shelf.put("az", (LEAST, LEAST + 1), 0)
        self.assertEqual(shelf.span("abcdefgh"), LINE)
        self.assertEqual(shelf.weight("abcdefgh"), HEAVIEST)
        for number in range(26):
            shelf = Shelf()
            shelf.put(letters(number)[1], (0, 1), 1)
            self.assertEqual(shelf.names(), [letters(number)[1]])

    def test_refusals(self):
        shelf = shelf_made_of(THREE)
        for name in NO_NAMES:
            self.assert_refused_by(shelf, NoName, shelf.put, name, (0, 1), 1)
        for name in THREE:
            self.assert_refused_by(shelf, Twice, shelf.put, name, (0, 1), 1)
        for span in NO_SPANS:
            self.assert_refused_by(shelf, NoSpan, shelf.put, "d", span, 1)
        for weight in NO_WEIGHTS:
            self.assert_refused_by(shelf, NoWeight, shelf.put, "d", (0, 1), weight)

    def test_the_order_of_the_refusals(self):
        for shelf in (shelf_of_spans(SIXTY_STAIRS[:59]), full_shelf()):
            for span in [(0, 1)] + NO_SPANS:
                for weight in [1] + NO_WEIGHTS:
                    self.assert_refused(NoName, shelf.put, "A", span, weight)
                    self.assert_refused(Twice, shelf.put, "aa", span, weight)
            for weight in [1] + NO_WEIGHTS:
                for span in NO_SPANS:
                    self.assert_refused(NoSpan, shelf.put, "zz", span, weight)
            for weight in NO_WEIGHTS:
                self.assert_refused(NoWeight, shelf.put, "zz", (0, 1), weight)

    def test_sixty_and_a_sixty_first(self):
        shelf = full_shelf()
        self.assertEqual(len(shelf.names()), 60)
        self.assert_refused_by(shelf, Full, shelf.put, "zz", (0, 1), 1)
        shelf.out("aa")
        shelf.put("zz", (0, 1), 1)
        self.assert_refused_by(shelf, Full, shelf.put, "zy", (0, 1), 1)
        shelf.back()
        shelf.put("zy", (0, 1), 1)
        self.assert_refused_by(shelf, Full, shelf.put, "zz", (0, 1), 1)


class DeedTest(AskCase):
    def test_out(self):
        shelf = shelf_made_of(THREE)
        self.assertIsNone(shelf.out("a"))
        self.assertEqual(shelf.names(), ["b", "c"])
        self.assert_refused_by(shelf, NoName, shelf.out, "a")
        shelf.put("a", (1, 2), 9)
        self.assertEqual(rows_on(shelf)["a"], ((1, 2), 9))

    def test_names_that_are_not_there(self):
        for shelf in (Shelf(), shelf_made_of(THREE)):
            for name in NO_NAMES + ["d", "aa", "abcdefgh"]:
                self.assert_refused_by(shelf, NoName, shelf.out, name)
                self.assert_refused_by(shelf, NoName, shelf.move, name, 1)
                self.assert_refused_by(shelf, NoName, shelf.move, name, FAR)
                self.assert_refused_by(shelf, NoName, shelf.clip, name, (0, 9))
                self.assert_refused_by(shelf, NoName, shelf.clip, name, (9, 0))
                self.assert_refused_by(shelf, NoName, shelf.clip, name, (50, 60))
                self.assert_refused_by(shelf, NoName, shelf.weigh, name, 1)
                self.assert_refused_by(shelf, NoName, shelf.weigh, name, -1)
                self.assert_refused_by(shelf, NoName, shelf.span, name)
                self.assert_refused_by(shelf, NoName, shelf.weight, name)

    def test_move(self):
        shelf = shelf_made_of(THREE)
        self.assertIsNone(shelf.move("a", 10))
        self.assertEqual(shelf.span("a"), (13, 19))
        shelf.move("a", -20)
        self.assertEqual(shelf.span("a"), (-7, -1))
        shelf.move("a", 0)
        self.assertEqual(shelf.span("a"), (-7, -1))
        self.assertEqual(shelf.weight("a"), 6)
        self.assertEqual(len(states_by(shelf, "back")), 6)

    def test_a_move_to_the_last_place_and_one_beyond(self):
        shelf = Shelf()
        shelf.put("a", (3, 9), 1)
        self.assert_refused_by(shelf, NoSpan, shelf.move, "a", GREATEST - 8)
        shelf.move("a", GREATEST - 9)
        self.assertEqual(shelf.span("a"), (GREATEST - 6, GREATEST))
        self.assert_refused_by(shelf, NoSpan, shelf.move, "a", 1)
        shelf.move("a", 2 * LEAST + 6)
        self.assertEqual(shelf.span("a"), (LEAST, LEAST + 6))
        for by in (-1, -FAR, FAR, 2 * GREATEST - 5):
            self.assert_refused_by(shelf, NoSpan, shelf.move, "a", by)
        self.assertEqual(shelf.span("a"), (LEAST, LEAST + 6))

    def test_clip_that_leaves_a_part_or_all(self):
        for span, left in [
            ((0, 5), (3, 5)),
            ((5, 20), (5, 9)),
            ((4, 6), (4, 6)),
            ((3, 9), (3, 9)),
            (LINE, (3, 9)),
            ((8, 20), (8, 9)),
            ((-5, 4), (3, 4)),
        ]:
            shelf = shelf_made_of(THREE)
            self.assertIsNone(shelf.clip("a", span))
            self.assertEqual(rows_on(shelf), {**THREE, "a": (left, 6)})
            self.assertEqual(states_by(shelf, "back")[0], THREE)

    def test_clip_that_leaves_nothing(self):
        shelf = shelf_made_of(THREE)
        for span in ((0, 3), (9, 12), (-5, -2), (40, 50), (LEAST, 3), (9, GREATEST)):
            self.assert_refused_by(shelf, Bare, shelf.clip, "a", span)
        for span in NO_SPANS:
            self.assert_refused_by(shelf, NoSpan, shelf.clip, "a", span)

    def test_weigh(self):
        shelf = shelf_made_of(THREE)
        for weight in (0, HEAVIEST, 7, 7):
            self.assertIsNone(shelf.weigh("a", weight))
            self.assertEqual(rows_on(shelf), {**THREE, "a": ((3, 9), weight)})
        for weight in NO_WEIGHTS:
            self.assert_refused_by(shelf, NoWeight, shelf.weigh, "a", weight)


class PourTest(AskCase):
    def test_all_are_put_as_one_deed(self):
        shelf, other = shelf_made_of(THREE), shelf_made_of({"x": ((0, 1), 1), "aa": ((2, 9), 5)})
        before = history_of(other)
        self.assertIsNone(shelf.pour(other))
        self.assertEqual(rows_on(shelf), {**THREE, "x": ((0, 1), 1), "aa": ((2, 9), 5)})
        self.assertEqual(history_of(other), before)
        shelf.back()
        self.assertEqual(rows_on(shelf), THREE)

    def test_its_deeds_are_not_poured(self):
        shelf, other = Shelf(), shelf_made_of(THREE)
        other.out("a")
        other.out("b")
        other.back()
        shelf.pour(other)
        self.assertEqual(states_by(shelf, "back"), [{}])
        self.assertEqual(states_by(shelf, "again"), [])
        self.assertEqual(shelf.names(), ["b", "c"])

    def test_both_go_their_own_way_behind(self):
        shelf, other = Shelf(), shelf_made_of(THREE)
        shelf.pour(other)
        other.move("a", 100)
        other.out("b")
        self.assertEqual(rows_on(shelf), THREE)
        shelf.weigh("c", 77)
        shelf.out("a")
        self.assertEqual(rows_on(other), {"a": ((103, 109), 6), "c": ((5, 12), 3)})

    def test_into_itself(self):
        shelf = Shelf()
        shelf.pour(shelf)
        self.assertEqual(history_of(shelf), ({}, [{}], []))
        shelf.back()
        self.assertEqual(history_of(shelf), ({}, [], [{}]))
        for shelf in (shelf_made_of(THREE), full_shelf()):
            self.assert_refused_by(shelf, Twice, shelf.pour, shelf)

    def test_nothing_poured_is_a_deed(self):
        shelf = shelf_made_of(THREE)
        shelf.out("a")
        shelf.back()
        shelf.pour(Shelf())
        self.assertEqual(rows_on(shelf), THREE)
        self.assert_refused_by(shelf, NoDeed, shelf.again)
        self.assertEqual(len(states_by(shelf, "back")), 4)

    def test_a_name_that_is_there(self):
        shelf = shelf_made_of(THREE)
        for rows in ({"a": ((3, 9), 6)}, {"x": ((0, 1), 1), "c": ((0, 1), 1)}, THREE):
            other = shelf_made_of(rows)
            before = history_of(other)
            self.assert_refused_by(shelf, Twice, shelf.pour, other)
            self.assertEqual(history_of(other), before)

    def test_more_than_sixty(self):
        shelf = shelf_of_spans(SIXTY_STAIRS[:40])
        fits = shelf_made_of({"x" + letters(k): ((k, k + 1), k) for k in range(20)})
        too_many = shelf_made_of({"x" + letters(k): ((k, k + 1), k) for k in range(21)})
        self.assert_refused_by(shelf, Full, shelf.pour, too_many)
        shelf.pour(fits)
        self.assertEqual(len(shelf.names()), 60)
        self.assert_refused_by(shelf, Full, shelf.pour, shelf_made_of({"zz": ((0, 1), 1)}))
        shelf.pour(Shelf())
        twice_and_too_many = shelf_made_of({**rows_on(too_many), "aa": ((0, 1), 1)})
        self.assert_refused_by(shelf, Twice, shelf.pour, twice_and_too_many)


class BackAndAgainTest(AskCase):
    def test_no_deed(self):
        shelf = Shelf()
        self.assert_refused_by(shelf, NoDeed, shelf.back)
        self.assert_refused_by(shelf, NoDeed, shelf.again)
        shelf.put("a", (0, 1), 1)
        self.assert_refused_by(shelf, NoDeed, shelf.again)
        self.assertIsNone(shelf.back())
        self.assert_refused_by(shelf, NoDeed, shelf.back)
        self.assertIsNone(shelf.again())
        self.assert_refused_by(shelf, NoDeed, shelf.again)
        self.assertEqual(rows_on(shelf), {"a": ((0, 1), 1)})

    def deeds(self):
        other = shelf_made_of({"x": ((7, 8), 1), "y": ((-5, 8), 2)})
        return [
            lambda shelf: shelf.put("b", (0, 5), 4),
            lambda shelf: shelf.put("a", (3, 9), 6),
            lambda shelf: shelf.move("a", -7),
            lambda shelf: shelf.clip("b", (2, 50)),
            lambda shelf: shelf.weigh("b", 0),
            lambda shelf: shelf.weigh("b", 0),
            lambda shelf: shelf.pour(other),
            lambda shelf: shelf.out("x"),
            lambda shelf: shelf.move("y", 0),
            lambda shelf: shelf.clip("y", LINE),
            lambda shelf: shelf.pour(Shelf()),
            lambda shelf: shelf.out("b"),
        ]

    def test_all_the_way_and_in_part(self):
        shelf = Shelf()
        states = [{}]
        for deed in self.deeds():
            deed(shelf)
            states.append(rows_on(shelf))
        last = len(states) - 1
        self.assertEqual(states_by(shelf, "back"), states[:-1][::-1])
        for many in list(range(last + 1)) + [5, last, 3]:
            for step in range(many):
                shelf.back()
                self.assertEqual(rows_on(shelf), states[last - step - 1])
            for step in range(many):
                shelf.again()
                self.assertEqual(rows_on(shelf), states[last - many + step + 1])
            self.assert_refused(NoDeed, shelf.again)
        for step in range(last):
            shelf.back()
        self.assert_refused(NoDeed, shelf.back)

    def test_a_new_deed_forgets_those_taken_back(self):
        for many in range(1, 13):
            for deed in (lambda shelf: shelf.put("new", (0, 1), 1), lambda shelf: shelf.pour(Shelf())):
                shelf = Shelf()
                for old in self.deeds():
                    old(shelf)
                for step in range(many):
                    shelf.back()
                states = states_by(shelf, "back")
                before = rows_on(shelf)
                deed(shelf)
                self.assert_refused_by(shelf, NoDeed, shelf.again)
                self.assertEqual(states_by(shelf, "back"), [before] + states)

    def test_a_refused_deed_forgets_nothing(self):
        shelf = Shelf()
        for deed in self.deeds():
            deed(shelf)
        for step in range(9):
            shelf.back()
        self.assert_refused_by(shelf, Twice, shelf.put, "a", (0, 1), 1)
        self.assert_refused_by(shelf, NoName, shelf.out, "zz")
        self.assert_refused_by(shelf, NoSpan, shelf.move, "a", FAR)
        self.assert_refused_by(shelf, Bare, shelf.clip, "a", (90, 91))
        self.assert_refused_by(shelf, NoWeight, shelf.weigh, "a", -1)
        self.assert_refused_by(shelf, Twice, shelf.pour, shelf)
        self.assertEqual(len(states_by(shelf, "again")), 9)
        shelf.again()
        self.assertEqual(shelf.names(), ["a", "b"])

    def test_again_of_a_pour_puts_what_it_put_then(self):
        shelf, other = Shelf(), shelf_made_of(THREE)
        shelf.pour(other)
        shelf.back()
        other.out("a")
        other.move("b", 100)
        other.put("new", (0, 1), 1)
        shelf.again()
        self.assertEqual(rows_on(shelf), THREE)
        shelf.back()
        other.pour(shelf)
        while other.names():
            other.back()
        shelf.again()
        self.assertEqual(rows_on(shelf), THREE)

    def test_back_behind_a_pour_takes_all_of_it_back_though_its_names_were_changed_since(self):
        shelf = shelf_made_of({"q": ((0, 1), 1)})
        shelf.pour(shelf_made_of(THREE))
        shelf.out("a")
        shelf.move("b", 50)
        for step in range(3):
            shelf.back()
        self.assertEqual(rows_on(shelf), {"q": ((0, 1), 1)})

    def test_back_and_again_are_no_deeds(self):
        shelf = shelf_made_of(THREE)
        for step in range(50):
            shelf.back()
            shelf.again()
        self.assertEqual(len(states_by(shelf, "back")), 3)

    def test_a_thousand_deeds(self):
        with soon():
            shelf = full_shelf()
            for step in range(940):
                shelf.move(letters(step % 60), step % 7 - 3)
            self.assertEqual(len(states_by(shelf, "back")), 1000)
            last = rows_on(shelf)
            for step in range(1000):
                shelf.back()
            self.assertEqual(shelf.names(), [])
            self.assert_refused(NoDeed, shelf.back)
            for step in range(1000):
                shelf.again()
            self.assertEqual(rows_on(shelf), last)
            self.assert_refused(NoDeed, shelf.again)


class ToldTest(AskCase):
    def assert_told_right(self, shelf):
        """Hold what is told of a shelf against the document's words over its rows."""
        rows = rows_on(shelf)
        names = sorted(rows)
        spans = [rows[name][0] for name in names]
        weights = [rows[name][1] for name in names]
        self.assertEqual(shelf.names(), names)
        near = places_near(shelf)
        for place in near:
            self.assertEqual(shelf.holders(place), [name for name in names if holds(rows[name][0], place)])
            self.assertEqual(shelf.depth(place), slow_depth(spans, place))
        for low, high in list(zip(near, near[1:])) + list(zip(near, near[4:])) + [LINE]:
            meeting = [name for name in names if not are_apart(rows[name][0], (low, high))]
            within = [name for name in names if low <= rows[name][0][0] and rows[name][0][1] <= high]
            self.assertEqual(shelf.meeting((low, high)), meeting)
            self.assertEqual(shelf.within((low, high)), within)
        self.assertEqual(shelf.deepest(), deepest(spans))
        self.assertEqual(shelf.profile(), profile(spans))
        self.assertEqual(shelf.cover(), cover_of(spans))
        self.assert_papers_right(shelf, names, spans, weights)

    def assert_papers_right(self, shelf, names, spans, weights):
        told, pins = shelf.apart()
        self.assertEqual(told, sorted(told))
        self.assert_truth(True, shows_apart(spans, [names.index(name) for name in told], pins))
        self.assertEqual(pins, sorted(pins))
        self.assertEqual(len(told), len(most_apart(spans)[0]))
        for k in (1, 2, 20):
            told, prices = shelf.heaviest(k)
            self.assertEqual(told, sorted(told))
            self.assertEqual(prices, sorted(prices))
            chosen = [names.index(name) for name in told]
            self.assert_truth(True, shows_heaviest(spans, weights, k, chosen, prices))

    def test_named_lists(self):
        for spans in NAMED_LISTS.values():
            with soon():
                self.assert_told_right(shelf_of_spans(spans))

    def test_lists_by_chance(self):
        for spans in chance_lists(151, 40):
            self.assert_told_right(shelf_of_spans(spans))

    def test_without_spans(self):
        shelf = Shelf()
        self.assertEqual(shelf.names(), [])
        self.assertEqual((shelf.holders(0), shelf.meeting(LINE), shelf.within(LINE)), ([], [], []))
        self.assertEqual((shelf.depth(0), shelf.deepest(), shelf.profile(), shelf.cover()), (0, None, [], []))
        self.assertEqual((shelf.apart(), shelf.heaviest(1)), (([], []), ([], [])))
        self.assertEqual((shelf.room(7, 1), shelf.room(GREATEST, 10 ** 12)), (7, GREATEST))

    def test_an_ordinary_shelf(self):
        shelf = shelf_made_of(THREE)
        self.assertEqual(shelf.names(), ["a", "b", "c"])
        self.assertEqual((shelf.span("b"), shelf.weight("b")), ((0, 5), 4))
        self.assertEqual(shelf.holders(4), ["a", "b"])
        self.assertEqual(shelf.meeting((4, 5)), ["a", "b"])
        self.assertEqual(shelf.meeting((9, 20)), ["c"])
        self.assertEqual(shelf.within((0, 9)), ["a", "b"])
        self.assertEqual((shelf.depth(4), shelf.depth(12)), (2, 0))
        self.assertEqual(shelf.deepest(), (2, 3))
        self.assertEqual(shelf.profile(), [(0, 3, 1), (3, 9, 2), (9, 12, 1)])
        self.assertEqual(shelf.cover(), [(0, 12)])
        self.assertEqual(shelf.apart()[0], ["b", "c"])
        self.assertEqual(shelf.heaviest(1)[0], ["b", "c"])
        self.assertEqual(shelf.heaviest(2)[0], ["a", "b", "c"])

    def test_names_are_told_in_order_wherever_names_are_told(self):
        shelf = shelf_made_of({name: ((k, k + 50), k + 1) for k, name in enumerate(["z", "b", "ab", "abc", "aa", "a"])})
        names = ["a", "aa", "ab", "abc", "b", "z"]
        self.assertEqual(shelf.names(), names)
        self.assertEqual(shelf.holders(20), names)
        self.assertEqual(shelf.meeting((0, 99)), names)
        self.assertEqual(shelf.within((0, 99)), names)
        self.assertEqual(shelf.heaviest(20)[0], names)
        apart = shelf_made_of({name: ((k, k + 1), k) for k, name in enumerate(["z", "b", "ab", "abc", "aa", "a"])})
        self.assertEqual(apart.apart()[0], names)

    def test_what_is_told_as_for_lists_hangs_on_no_order_of_deeds(self):
        rows = {letters(k): ((k * k % 17, k * k % 17 + 1 + k % 5), k % 4) for k in range(20)}
        wanted = answers_of(shelf_made_of(rows))
        chance = random.Random(152)
        for turn in range(10):
            names = list(rows)
            chance.shuffle(names)
            self.assertEqual(answers_of(shelf_made_of({name: rows[name] for name in names})), wanted)

    def test_refusals(self):
        for shelf in (Shelf(), shelf_made_of(THREE)):
            for place in NO_PLACES:
                self.assert_refused_by(shelf, NoPlace, shelf.holders, place)
                self.assert_refused_by(shelf, NoPlace, shelf.depth, place)
                for length in (1, 10 ** 12, 0, -1, 10 ** 12 + 1, FAR, -FAR):
                    self.assert_refused_by(shelf, NoPlace, shelf.room, place, length)
            for span in NO_SPANS:
                self.assert_refused_by(shelf, NoSpan, shelf.meeting, span)
                self.assert_refused_by(shelf, NoSpan, shelf.within, span)
            for length in (0, -1, 10 ** 12 + 1, FAR, -FAR):
                self.assert_refused_by(shelf, NoCount, shelf.room, 0, length)
            for k in (0, -1, 21, FAR, -FAR):
                self.assert_refused_by(shelf, NoCount, shelf.heaviest, k)
        for place in (LEAST, GREATEST):
            self.assertEqual((Shelf().holders(place), Shelf().depth(place)), ([], 0))

    def test_truths_are_no_whole_numbers(self):
        shelf = shelf_made_of(THREE)
        for truth in (True, False):
            self.assert_refused_by(shelf, NoWeight, shelf.put, "d", (0, 9), truth)
            self.assert_refused_by(shelf, NoWeight, shelf.weigh, "a", truth)
            self.assert_refused_by(shelf, NoPlace, shelf.holders, truth)
            self.assert_refused_by(shelf, NoPlace, shelf.room, truth, 1)
            self.assert_refused_by(shelf, NoCount, shelf.room, 0, truth)
            self.assert_refused_by(shelf, NoCount, shelf.heaviest, truth)

    def test_heaviest_is_told_as_of_lists(self):
        shelf = shelf_of_spans(SIXTY_STAIRS)
        for k in (1, 7, 20):
            chosen, prices = heaviest(SIXTY_STAIRS, list(range(60)), k)
            self.assertEqual(shelf.heaviest(k), ([letters(number) for number in chosen], prices))


class RoomTest(AskCase):
    def slow_room(self, shelf, place, length):
        while shelf.meeting((place, place + length)):
            place += 1
        return place

    def test_small_shelves_place_by_place(self):
        chance = random.Random(153)
        for turn in range(60):
            shelf = Shelf()
            for name in "abcd"[:chance.randint(0, 4)]:
                low = chance.randint(-10, 10)
                shelf.put(name, (low, low + chance.randint(1, 5)), 1)
            for place in range(-13, 18):
                for length in (1, 2, 3, 5, 30):
                    self.assertEqual(shelf.room(place, length), self.slow_room(shelf, place, length))

    def test_at_a_place_that_is_held_free_or_behind_all(self):
        shelf = shelf_made_of({"a": ((0, 5), 1), "b": ((7, 9), 1), "c": ((9, 12), 1), "d": ((3, 4), 1)})
        for place, length, wanted in [
            (0, 1, 5), (3, 1, 5), (4, 2, 5), (4, 3, 12), (5, 2, 5), (5, 3, 12), (6, 1, 6), (6, 2, 12), (8, 1, 12),
            (12, 1, 12), (12, 10 ** 12, 12), (50, 10 ** 12, 50), (-1, 1, -1), (-1, 2, 5), (-2, 2, -2), (-2, 3, 12),
            (-10 ** 11, 10 ** 11, -10 ** 11), (-10 ** 11, 10 ** 11 + 1, 12), (LEAST, 10 ** 12, 12),
            (LEAST, 10 ** 12 - 1, LEAST), (GREATEST, 1, GREATEST), (GREATEST, 10 ** 12, GREATEST),
        ]:
            self.assertEqual(shelf.room(place, length), wanted, (place, length))

    def test_the_end_may_have_more_figures(self):
        shelf = shelf_made_of({"a": (LINE, 1)})
        for place in (LEAST, 0, GREATEST - 1, GREATEST):
            for length in (1, 10 ** 12):
                self.assertEqual(shelf.room(place, length), GREATEST)

    def test_sixty(self):
        shelf = shelf_made_of({letters(k): ((3 * k, 3 * k + 2), 1) for k in range(60)})
        self.assertEqual([shelf.room(0, length) for length in (1, 2)], [2, 179])
        with soon():
            self.assertEqual(shelf_of_spans(SIXTY_OF_TWELVE_FIGURES).room(LEAST, 10 ** 12),
                             max(high for low, high in SIXTY_OF_TWELVE_FIGURES))
        self.assertEqual(shelf_of_spans(SIXTY_TOUCHING).room(-1, 1), -1)
        self.assertEqual(shelf_of_spans(SIXTY_NESTED).room(-60, 1), 60)


class TwinTest(AskCase):
    def test_a_twin_is_alike_with_its_deeds(self):
        shelf = shelf_made_of(THREE)
        shelf.move("a", 5)
        shelf.out("b")
        shelf.back()
        shelf.back()
        twin = shelf.twin()
        self.assertIs(twin.__class__, Shelf)
        self.assertEqual(history_of(twin), history_of(shelf))
        self.assertEqual(len(states_by(twin, "again")), 2)
        self.assertEqual(answers_of(twin), answers_of(shelf))

    def test_twins_go_their_own_way(self):
        shelf = shelf_made_of(THREE)
        shelf.out("a")
        shelf.back()
        twin = shelf.twin()
        third = twin.twin()
        before = history_of(shelf)
        twin.again()
        twin.put("x", (0, 1), 1)
        twin.move("b", 9)
        self.assertEqual(history_of(shelf), before)
        self.assertEqual(history_of(third), before)
        behind = history_of(twin)
        for step in range(3):
            shelf.back()
        shelf.put("b", (70, 80), 1)
        self.assertEqual(history_of(twin), behind)
        self.assertEqual(history_of(third), before)
        twin.pour(shelf_made_of({"q": ((0, 1), 1)}))
        third.again()
        self.assertEqual(rows_on(shelf), {"b": ((70, 80), 1)})
        self.assertEqual(third.names(), ["b", "c"])
        self.assertEqual(twin.names(), ["b", "c", "q", "x"])

    def test_a_twin_may_not_be_poured_into_its_twin_unless_empty(self):
        shelf = shelf_made_of(THREE)
        self.assert_refused_by(shelf, Twice, shelf.pour, shelf.twin())
        Shelf().pour(Shelf().twin())

    def test_a_twin_of_an_empty_shelf(self):
        self.assertEqual(history_of(Shelf().twin()), ({}, [], []))


class OwnTest(AskCase):
    def test_what_is_told_is_the_askers_own(self):
        for shelf in (Shelf(), shelf_made_of(THREE), full_shelf()):
            before, kept = history_of(shelf), answers_of(shelf)
            told = answers_of(shelf)
            lists = [one for part in told.values() for one in lists_within(part)]
            self.assertEqual(len({id(one) for one in lists}), len(lists))
            for one in lists:
                one.append("x")
                one.reverse()
            self.assertEqual(answers_of(shelf), kept)
            self.assertEqual(history_of(shelf), before)

    def test_what_was_told_stays_as_it_was_behind_deeds(self):
        shelf = shelf_made_of(THREE)
        told, kept = answers_of(shelf), answers_of(shelf)
        shelf.move("a", 50)
        shelf.out("b")
        shelf.pour(shelf_made_of({"x": ((0, 1), 1)}))
        self.assertEqual(told, kept)
        self.assertNotEqual(answers_of(shelf), kept)

    def test_questions_are_no_deeds(self):
        shelf = shelf_made_of(THREE)
        shelf.out("a")
        shelf.back()
        before = history_of(shelf)
        answers_of(shelf)
        self.assertEqual(history_of(shelf), before)

    def test_two_shelves_share_nothing(self):
        one, other = Shelf(), Shelf()
        one.put("a", (0, 1), 1)
        self.assertEqual(history_of(other), ({}, [], []))


if __name__ == "__main__":
    unittest.main()
