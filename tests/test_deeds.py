"""Point 3: behind every row of deeds a shelf answers as one made anew of the spans that stand on it."""

import random
import unittest

from helper import (
    AskCase,
    FAR,
    GREATEST,
    HEAVIEST,
    LEAST,
    answers_of,
    chance_span,
    history_of,
    letters,
    rows_on,
    shelf_made_of,
    soon,
)
from spanshelf.errors import Bare, Full, NoDeed, NoName, NoSpan, NoWeight, ShelfError, Twice
from spanshelf.shelf import Shelf

LETTERS = "abcdefghijklmnopqrstuvwxyz"


def is_slow_span(span):
    return LEAST <= span[0] < span[1] <= GREATEST


def refuse(kind, where):
    if where:
        raise kind


class SlowShelf:
    """Keeps nothing but its deeds, and does all of them anew to see what stands on it."""

    def __init__(self):
        self.done = []
        self.gone = []

    def rows(self):
        rows = {}
        for kind, name, worth in self.done:
            if kind == "set":
                rows[name] = worth
            elif kind == "out":
                del rows[name]
            else:
                rows.update(worth)
        return rows

    def do(self, kind, name, worth):
        self.done.append((kind, name, worth))
        self.gone = []

    def put(self, name, span, weight):
        rows = self.rows()
        refuse(NoName, not 0 < len(name) < 9 or set(name) - set(LETTERS))
        refuse(Twice, name in rows)
        refuse(NoSpan, not is_slow_span(span))
        refuse(NoWeight, not 0 <= weight <= HEAVIEST)
        refuse(Full, len(rows) == 60)
        self.do("set", name, (span, weight))

    def row(self, name):
        refuse(NoName, name not in self.rows())
        return self.rows()[name]

    def out(self, name):
        self.row(name)
        self.do("out", name, None)

    def move(self, name, by):
        span, weight = self.row(name)
        moved = (span[0] + by, span[1] + by)
        refuse(NoSpan, not is_slow_span(moved))
        self.do("set", name, (moved, weight))

    def clip(self, name, span):
        own, weight = self.row(name)
        refuse(NoSpan, not is_slow_span(span))
        part = (max(own[0], span[0]), min(own[1], span[1]))
        refuse(Bare, part[0] >= part[1])
        self.do("set", name, (part, weight))

    def weigh(self, name, weight):
        span, old = self.row(name)
        refuse(NoWeight, not 0 <= weight <= HEAVIEST)
        self.do("set", name, (span, weight))

    def pour(self, other):
        rows, poured = self.rows(), other.rows()
        refuse(Twice, set(rows) & set(poured))
        refuse(Full, len(rows) + len(poured) > 60)
        self.do("pour", None, poured)

    def back(self):
        refuse(NoDeed, not self.done)
        self.gone.append(self.done.pop())

    def again(self):
        refuse(NoDeed, not self.gone)
        self.done.append(self.gone.pop())

    def twin(self):
        twin = SlowShelf()
        twin.done, twin.gone = list(self.done), list(self.gone)
        return twin


class Pair:
    """A shelf and a slow one to which the same deeds are done."""

    def __init__(self, shelf, slow):
        self.shelf = shelf
        self.slow = slow

    def both(self, deed, handed):
        """Do a deed to both, and tell by which class each refuses, None where it doesn't."""
        told = []
        for one, given in ((self.shelf, [getattr(part, "shelf", part) for part in handed]),
                           (self.slow, [getattr(part, "slow", part) for part in handed])):
            try:
                getattr(one, deed)(*given)
                told.append(None)
            except ShelfError as refusal:
                told.append(refusal.__class__)
        return told


def chance_deed(chance, pairs, names, wide):
    """Give the name of a deed and what is handed to it, now and then a wrong thing."""
    name = chance.choice(names)
    low, high = (-wide, wide) if wide < GREATEST else (LEAST, GREATEST)
    span = chance_span(chance, low, high, wide // 3 + 1)
    weight = chance.choice([0, 1, 7, HEAVIEST, chance.randint(0, HEAVIEST)])
    if chance.random() < 0.05:
        name = chance.choice(["", "A", "toolongname", "a b"])
    if chance.random() < 0.05:
        span = (span[1], span[0])
    if chance.random() < 0.05:
        weight = chance.choice([-1, HEAVIEST + 1])
    deed = chance.choice(["put"] * 6 + ["out", "move", "move", "clip", "clip", "weigh", "pour"]
                         + ["back"] * 4 + ["again"] * 4)
    by = chance.choice([0, 1, -1, chance.randint(-wide, wide), FAR if chance.random() < 0.2 else 3])
    handed = {
        "put": [name, span, weight],
        "out": [name],
        "move": [name, by],
        "clip": [name, span],
        "weigh": [name, weight],
        "pour": [chance.choice(pairs)],
        "back": [],
        "again": [],
    }
    return deed, handed[deed]


class RowsOfDeedsTest(AskCase):
    def assert_as_made_anew(self, chance, pair):
        rows = pair.slow.rows()
        self.assertEqual(rows_on(pair.shelf), rows)
        names = list(rows)
        chance.shuffle(names)
        anew = shelf_made_of({name: rows[name] for name in names})
        self.assertEqual(answers_of(pair.shelf), answers_of(anew))

    def run_of_deeds(self, seed, names, wide, many):
        chance = random.Random(seed)
        pairs = [Pair(Shelf(), SlowShelf()) for at in range(3)]
        seen = {}
        for step in range(many):
            at = chance.randrange(3)
            if chance.random() < 0.02:
                source = chance.choice(pairs)
                pairs[at] = Pair(source.shelf.twin(), source.slow.twin())
            deed, handed = chance_deed(chance, pairs, names, wide)
            others = [history_of(pair.shelf)[0] for pair in pairs if pair != pairs[at]]
            told = pairs[at].both(deed, handed)
            self.assertEqual(told[0], told[1], (seed, step, deed, handed))
            seen[(deed, told[0])] = True
            self.assertEqual([history_of(pair.shelf)[0] for pair in pairs if pair != pairs[at]], others)
            self.assert_as_made_anew(chance, pairs[at])
        return seen

    def test_many_deeds_with_few_names(self):
        seen = {}
        for seed in range(6):
            seen.update(self.run_of_deeds(seed, ["a", "b", "c", "ab", "zz"], 12, 400))
        for row in [("put", None), ("put", NoName), ("put", Twice), ("put", NoSpan), ("put", NoWeight), ("out", None),
                    ("out", NoName), ("move", None), ("move", NoName), ("clip", None), ("clip", NoSpan), ("clip", Bare),
                    ("weigh", None), ("weigh", NoWeight), ("pour", None), ("pour", Twice), ("back", None),
                    ("back", NoDeed), ("again", None), ("again", NoDeed)]:
            self.assertIn(row, seen)

    def test_many_deeds_with_more_names(self):
        for seed in range(6, 10):
            self.run_of_deeds(seed, [letters(number) for number in range(30)], 40, 300)

    def test_many_deeds_over_the_whole_line(self):
        for seed in range(10, 13):
            self.run_of_deeds(seed, [letters(number) for number in range(12)], GREATEST, 300)

    def test_full_shelves(self):
        chance = random.Random(154)
        pair = Pair(Shelf(), SlowShelf())
        names = [letters(number) for number in range(90)]
        seen = []
        for name in names[:60]:
            seen += pair.both("put", [name, chance_span(chance, -99, 99, 30), 5])
        for step in range(40):
            deed, handed = chance_deed(chance, [pair], names, 99)
            told = pair.both(deed, handed)
            self.assertEqual(told[0], told[1])
            seen += told
        self.assertIn(Full, seen)
        self.assert_as_made_anew(chance, pair)

    def test_each_state_of_a_long_row_there_and_back(self):
        chance = random.Random(155)
        pair = Pair(Shelf(), SlowShelf())
        for step in range(60):
            deed, handed = chance_deed(chance, [pair], ["a", "b", "c", "d"], 15)
            if deed not in ("back", "again"):
                pair.both(deed, handed)
        for deed in ("back", "again", "back"):
            while pair.both(deed, []) == [None, None]:
                self.assert_as_made_anew(chance, pair)
            self.assertEqual(pair.both(deed, []), [NoDeed, NoDeed])

    def test_soon_at_the_bounds(self):
        chance = random.Random(156)
        with soon():
            shelf = Shelf()
            names = [letters(number) for number in range(60)]
            for name in names:
                shelf.put(name, chance_span(chance, LEAST, GREATEST, 10 ** 11), chance.randint(0, HEAVIEST))
            for step in range(940):
                shelf.weigh(chance.choice(names), chance.randint(0, HEAVIEST))
            twins = [shelf.twin() for at in range(19)]
            for twin in twins:
                for step in range(500):
                    twin.back()
            answers = answers_of(shelf)
            self.assertEqual(answers, answers_of(shelf_made_of(rows_on(shelf))))


if __name__ == "__main__":
    unittest.main()
