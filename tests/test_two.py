"""Points 2 and 16: clashes, shared and spare cover of two shelves, or of one and itself."""

import random
import unittest

from helper import (
    AskCase,
    GREATEST,
    LEAST,
    LINE,
    NAMED_LISTS,
    SIXTY_NESTED,
    SIXTY_STAIRS,
    SIXTY_TOUCHING,
    chance_lists,
    chance_span,
    history_of,
    letters,
    lists_within,
    places,
    rows_on,
    shelf_made_of,
    shelf_of_spans,
    soon,
)
from spanshelf.covers import both, cover_of, held, less
from spanshelf.shelf import Shelf
from spanshelf.two import clashes, shared, spare


def slow_clashes(one, other):
    ours, theirs = rows_on(one), rows_on(other)
    return sorted((name, rival) for name in ours for rival in theirs if places(ours[name][0]) & places(theirs[rival][0]))


def slow_places(shelf):
    return set().union(*[places(shelf.span(name)) for name in shelf.names()])


def places_of(cover):
    return set().union(*[places(span) for span in cover])


class TwoTest(AskCase):
    def assert_told_right(self, one, other):
        self.assertEqual(clashes(one, other), slow_clashes(one, other))
        self.assertEqual(places_of(shared(one, other)), slow_places(one) & slow_places(other))
        self.assertEqual(places_of(spare(one, other)), slow_places(one) - slow_places(other))
        for cover in (shared(one, other), spare(one, other)):
            self.assertEqual(cover, cover_of(cover))

    def test_small_shelves_place_by_place(self):
        chance = random.Random(161)
        names = ["a", "b", "ab", "z", "aa", "ba"]
        for turn in range(400):
            pair = []
            for side in range(2):
                some = chance.sample(names, chance.randint(0, 6))
                pair.append(shelf_made_of({name: (chance_span(chance, -8, 8, 6), 1) for name in some}))
            self.assert_told_right(*pair)
            self.assert_told_right(pair[0], pair[0])

    def test_ordinary_shelves(self):
        one = shelf_made_of({"b": ((0, 5), 1), "a": ((8, 12), 1), "c": ((20, 25), 1)})
        other = shelf_made_of({"z": ((3, 9), 1), "a": ((5, 8), 1), "b": ((24, 30), 1)})
        self.assertEqual(clashes(one, other), [("a", "z"), ("b", "z"), ("c", "b")])
        self.assertEqual(clashes(other, one), [("b", "c"), ("z", "a"), ("z", "b")])
        self.assertEqual(shared(one, other), [(3, 5), (8, 9), (24, 25)])
        self.assertEqual(spare(one, other), [(0, 3), (9, 12), (20, 24)])
        self.assertEqual(spare(other, one), [(5, 8), (25, 30)])

    def test_one_and_itself(self):
        shelf = shelf_made_of({"b": ((0, 5), 1), "a": ((4, 12), 1), "c": ((12, 25), 1)})
        self.assertEqual(clashes(shelf, shelf), [("a", "a"), ("a", "b"), ("b", "a"), ("b", "b"), ("c", "c")])
        self.assertEqual(shared(shelf, shelf), [(0, 25)])
        self.assertEqual(spare(shelf, shelf), [])
        self.assertEqual(clashes(shelf, shelf.twin()), clashes(shelf, shelf))

    def test_shelves_without_spans(self):
        shelf = shelf_made_of({"b": ((0, 5), 1)})
        for one, other in ((Shelf(), Shelf()), (shelf, Shelf()), (Shelf(), shelf)):
            self.assertEqual(clashes(one, other), [])
            self.assertEqual(shared(one, other), [])
        self.assertEqual(spare(shelf, Shelf()), [(0, 5)])
        self.assertEqual(spare(Shelf(), shelf), [])

    def test_spans_that_only_touch_do_not_clash(self):
        one, other = shelf_made_of({"a": ((0, 5), 1)}), shelf_made_of({"a": ((5, 9), 1)})
        self.assertEqual(clashes(one, other), [])
        self.assertEqual(shared(one, other), [])
        self.assertEqual(spare(one, other), [(0, 5)])

    def test_covers_are_joined_where_spans_touch(self):
        one = shelf_made_of({"a": ((0, 5), 1), "b": ((5, 9), 1)})
        other = shelf_made_of({"a": ((0, 3), 1), "b": ((3, 9), 1)})
        self.assertEqual(shared(one, other), [(0, 9)])
        self.assertEqual(spare(one, shelf_made_of({"a": ((20, 21), 1)})), [(0, 9)])

    def test_long_lists(self):
        lists = list(NAMED_LISTS.values()) + list(chance_lists(162, 20))
        for ours in lists[::2]:
            for theirs in lists[::3]:
                one, other = shelf_of_spans(ours), shelf_of_spans(theirs)
                wanted = [(letters(a), letters(b)) for a, span in enumerate(ours) for b, rival in enumerate(theirs)
                          if max(span[0], rival[0]) < min(span[1], rival[1])]
                self.assertEqual(clashes(one, other), wanted)
                self.assertEqual(shared(one, other), both(cover_of(ours), cover_of(theirs)))
                self.assertEqual(spare(one, other), less(cover_of(ours), cover_of(theirs)))

    def test_sixty_each(self):
        with soon():
            every = shelf_of_spans([LINE] * 60)
            self.assertEqual(len(clashes(every, shelf_of_spans(SIXTY_NESTED))), 3600)
            self.assertEqual(clashes(every, every)[:2], [("aa", "aa"), ("aa", "ab")])
            combs = [shelf_made_of({letters(k): ((10 * k + step, 10 * k + step + 6), 1) for k in range(60)})
                     for step in (0, 5)]
            self.assertEqual(len(shared(*combs)), 119)
            self.assertEqual(len(spare(*combs)), 60)
            self.assertEqual(held(spare(every, shelf_of_spans(SIXTY_TOUCHING))), 2 * GREATEST - 60)
            self.assertEqual(shared(every, every), [LINE])
            self.assertEqual(spare(every, shelf_of_spans([(LEAST, 0), (1, GREATEST)])), [(0, 1)])

    def test_behind_deeds_they_are_told_as_of_shelves_made_anew(self):
        one = shelf_made_of({"b": ((0, 5), 1), "a": ((8, 12), 1)})
        other = shelf_made_of({"z": ((3, 9), 1)})
        one.move("a", 50)
        other.pour(one)
        one.back()
        other.out("b")
        other.back()
        other.back()
        other.again()
        anew = [shelf_made_of(rows_on(one)), shelf_made_of(rows_on(other))]
        for ask in (clashes, shared, spare):
            self.assertEqual(ask(one, other), ask(*anew))

    def test_own_and_nothing_changes(self):
        one, other = shelf_of_spans(SIXTY_STAIRS), shelf_of_spans(SIXTY_NESTED)
        other.out("aa")
        other.back()
        before = history_of(one), history_of(other)
        for ask in (clashes, shared, spare):
            for pair in ((one, other), (one, one)):
                told, kept = ask(*pair), ask(*pair)
                self.assertEqual(told, kept)
                self.assertEqual(len(list(lists_within(told))), 1)
                told.reverse()
                told.append((0, 1))
                self.assertEqual(ask(*pair), kept)
        self.assertEqual((history_of(one), history_of(other)), before)


if __name__ == "__main__":
    unittest.main()
