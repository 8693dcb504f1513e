"""Points 2, 3 and 18: a desk, its lines, their answers and their refusals."""

import random
import unittest

from helper import (
    AskCase,
    GREATEST,
    HEAVIEST,
    LEAST,
    NAMED_LISTS,
    NO_NAMES,
    SIXTY_STAIRS,
    chance_lists,
    chance_span,
    letters,
    rows_on,
    shelf_made_of,
    soon,
)
from spanshelf.apart import most_apart
from spanshelf.covers import cover_of
from spanshelf.desk import Desk
from spanshelf.errors import Bare, Full, NoCount, NoDeed, NoLine, NoName, NoSpan, NoWeight, ShelfError, Twice
from spanshelf.giving import giving
from spanshelf.heaviest import heaviest
from spanshelf.nests import loose, nest
from spanshelf.rows import rows_of
from spanshelf.shelf import Shelf
from spanshelf.texts import read_shelf, show_cover, show_shelf
from spanshelf.two import clashes

# Each line, with small words: what stands behind the first one may be any name, or a whole number.
LINES = [
    "use NAME", "twin NAME", "pour NAME", "shelves", "put NAME N N N", "out NAME", "move NAME N", "clip NAME N N",
    "weigh NAME N", "back", "again", "names", "show NAME", "holders N", "meeting N N", "depth N", "deepest", "cover",
    "room N N", "text", "apart", "rows", "heaviest N", "given", "nest", "loose", "clash NAME",
]

NO_NUMBERS = [
    "x", "1x", "x1", "+1", "-", "--1", "1-", "01", "00", "-0", "-01", "1.0", "1..2", "1e3", "0x1", "1_0", "1,000",
    "1000000000000", "-1000000000000", "9" * 13, "0" * 13, "9" * 500, "N", "none", "True",
]

THREE_LINES = ["put b 0 5 4", "put a 3 9 6", "put c 5 12 3"]


def desk_told(lines):
    desk = Desk()
    for line in lines:
        desk.say(line)
    return desk


def lines_for(spans, weights):
    return [f"put {letters(number)} {low} {high} {weight}"
            for number, ((low, high), weight) in enumerate(zip(spans, weights))]


def state_of(desk):
    """Tell which shelf is in use, and of each shelf its text and those behind its deeds; the desk stays as it was."""
    used = desk.used
    state = []
    for name in desk.say("shelves").split(" "):
        desk.say("use " + name)
        state.append((name, desk.say("text"), steps_left(desk, "back", "again"), steps_left(desk, "again", "back")))
    desk.say("use " + used)
    return used, state


def steps_left(desk, step, other):
    """Tell the texts behind each step that can be done, and undo the steps."""
    texts = []
    while True:
        try:
            desk.say(step)
        except NoDeed:
            break
        texts.append(desk.say("text"))
    for text in texts:
        desk.say(other)
    return texts


class DeskCase(AskCase):
    def assert_answers(self, desk, rows):
        for line, answer in rows:
            told = desk.say(line)
            self.assertIs(told.__class__, str, line)
            self.assertEqual(told, answer, line)

    def assert_line_refused(self, desk, kind, line):
        before = state_of(desk)
        self.assert_refused(kind, desk.say, line)
        self.assertEqual(state_of(desk), before)


class LineTest(DeskCase):
    def test_a_new_desk(self):
        self.assert_answers(Desk(), [
            ("shelves", "a"), ("names", "none"), ("text", "none"), ("cover", "none"), ("deepest", "none"),
            ("holders 0", "none"), ("meeting 0 1", "none"), ("depth 0", "0"), ("room 5 1", "5"), ("apart", "0"),
            ("rows", "0"), ("heaviest 1", "0"), ("given", "0"), ("nest", "0"), ("loose", "0"), ("clash a", "none"),
        ])

    def test_an_ordinary_row_of_lines(self):
        self.assert_answers(Desk(), [
            ("put b 0 5 4", "ok"),
            ("put a 3 9 6", "ok"),
            ("put c 5 12 3", "ok"),
            ("names", "a b c"),
            ("show a", "3 9 6"),
            ("holders 4", "a b"),
            ("holders 12", "none"),
            ("meeting 9 20", "c"),
            ("meeting -5 0", "none"),
            ("meeting 0 20", "a b c"),
            ("depth 4", "2"),
            ("depth -1", "0"),
            ("deepest", "2 3"),
            ("cover", "0..12"),
            ("room 0 1", "12"),
            ("room -3 3", "-3"),
            ("room -3 4", "12"),
            ("text", "a 3..9 6\nb 0..5 4\nc 5..12 3"),
            ("apart", "2"),
            ("rows", "2"),
            ("heaviest 1", "7"),
            ("heaviest 2", "13"),
            ("given", "3"),
            ("nest", "1"),
            ("loose", "3"),
            ("clash a", "a a; a b; a c; b a; b b; c a; c c"),
            ("move a -10", "ok"),
            ("show a", "-7 -1 6"),
            ("cover", "-7..-1 0..12"),
            ("clip c 6 8", "ok"),
            ("show c", "6 8 3"),
            ("weigh c 0", "ok"),
            ("show c", "6 8 0"),
            ("out b", "ok"),
            ("names", "a c"),
            ("back", "ok"),
            ("names", "a b c"),
            ("again", "ok"),
            ("names", "a c"),
            ("back", "ok"),
            ("back", "ok"),
            ("show c", "6 8 3"),
            ("deepest", "1 -7"),
        ])

    def test_use_and_shelves(self):
        self.assert_answers(Desk(), [
            ("put x 0 1 1", "ok"),
            ("use b", "ok"),
            ("shelves", "a b"),
            ("names", "none"),
            ("put y 5 6 1", "ok"),
            ("use a", "ok"),
            ("names", "x"),
            ("use a", "ok"),
            ("names", "x"),
            ("use b", "ok"),
            ("names", "y"),
            ("use ab", "ok"),
            ("use abcdefgh", "ok"),
            ("shelves", "a ab abcdefgh b"),
        ])

    def test_twin(self):
        desk = desk_told(["put x 0 1 1", "put y 4 9 2", "back"])
        self.assert_answers(desk, [
            ("twin b", "ok"),
            ("shelves", "a b"),
            ("names", "x"),
            ("put z 0 1 1", "ok"),
            ("use b", "ok"),
            ("names", "x"),
            ("again", "ok"),
            ("names", "x y"),
            ("back", "ok"),
            ("back", "ok"),
            ("names", "none"),
            ("use a", "ok"),
            ("names", "x z"),
            ("use b", "ok"),
            ("put own 1 2 3", "ok"),
            ("twin a", "ok"),
            ("use a", "ok"),
            ("names", "own"),
            ("move own 5", "ok"),
            ("use b", "ok"),
            ("show own", "1 2 3"),
            ("shelves", "a b"),
        ])

    def test_a_twin_of_the_name_in_use_changes_nothing(self):
        desk = desk_told(["put x 0 1 1", "put y 4 9 2", "back"])
        before = state_of(desk)
        self.assertEqual(desk.say("twin a"), "ok")
        self.assertEqual(state_of(desk), before)
        self.assertEqual(desk.say("again"), "ok")

    def test_pour(self):
        desk = desk_told(["use b"] + THREE_LINES + ["use a", "put z 0 1 1"])
        self.assert_answers(desk, [
            ("pour b", "ok"),
            ("names", "a b c z"),
            ("use b", "ok"),
            ("names", "a b c"),
            ("out a", "ok"),
            ("use a", "ok"),
            ("back", "ok"),
            ("names", "z"),
            ("again", "ok"),
            ("names", "a b c z"),
            ("use e", "ok"),
            ("pour e", "ok"),
            ("names", "none"),
            ("back", "ok"),
        ])
        for line, kind in (("pour d", NoName), ("pour A", NoName), ("pour 5", NoName)):
            self.assert_line_refused(desk, kind, line)
        desk.say("use a")
        for line in ("pour a", "pour b"):
            self.assert_line_refused(desk, Twice, line)

    def test_clash(self):
        desk = desk_told(["put b 0 5 1", "put a 8 12 1", "use o", "put z 3 9 1", "put a 5 8 1", "use e", "use a"])
        self.assert_answers(desk, [
            ("clash o", "a z; b z"),
            ("clash e", "none"),
            ("clash a", "a a; b b"),
            ("use o", "ok"),
            ("clash a", "z a; z b"),
        ])
        for line in ("clash d", "clash A", "clash 5", "clash shelves"):
            self.assert_line_refused(desk, NoName, line)

    def test_shelves_by_lists(self):
        chance = random.Random(181)
        for spans in list(NAMED_LISTS.values()) + list(chance_lists(182, 40)):
            weights = [chance.randint(0, 9) for span in spans]
            desk = desk_told(lines_for(spans, weights))
            shelf = shelf_made_of({letters(at): row for at, row in enumerate(zip(spans, weights))})
            deepest = shelf.deepest()
            self.assert_answers(desk, [
                ("names", " ".join(shelf.names()) or "none"),
                ("text", show_shelf(shelf) or "none"),
                ("cover", show_cover(cover_of(spans)) or "none"),
                ("deepest", "none" if deepest is None else f"{deepest[0]} {deepest[1]}"),
                ("apart", str(len(most_apart(spans)[0]))),
                ("rows", str(len(set(rows_of(spans)[0])))),
                ("given", str(len(spans) - giving(spans)[0].count(None))),
                ("nest", str(len(nest(spans)[0]))),
                ("loose", str(len(loose(spans)[0]))),
                ("clash a", "; ".join(f"{one} {other}" for one, other in clashes(shelf, shelf)) or "none"),
            ])
            for k in (1, 2, 20):
                chosen = heaviest(spans, weights, k)[0]
                self.assert_answers(desk, [(f"heaviest {k}", str(sum(weights[number] for number in chosen)))])
            for place in (0, -5, LEAST, GREATEST):
                self.assert_answers(desk, [
                    (f"holders {place}", " ".join(shelf.holders(place)) or "none"),
                    (f"depth {place}", str(shelf.depth(place))),
                    (f"room {place} 7", str(shelf.room(place, 7))),
                ])
            self.assert_answers(desk, [("meeting -9 9", " ".join(shelf.meeting((-9, 9))) or "none")])

    def test_more_spans_than_places(self):
        desk = desk_told([f"put {name} 7 9 5" for name in "abcde"])
        self.assert_answers(desk, [("given", "2"), ("nest", "5"), ("loose", "1"), ("rows", "5"), ("apart", "1"),
                                   ("heaviest 3", "15")])


class NoLineTest(DeskCase):
    def words_for(self, line):
        return [{"NAME": "b", "N": "7"}.get(word, word) for word in line.split(" ")]

    def test_words_missing_and_words_more(self):
        desk = desk_told(THREE_LINES)
        for line in LINES:
            words = self.words_for(line)
            for some in [words[:-1] or ["no"], words + ["b"], words + ["7"], words + ["b", "7"], words + words]:
                self.assert_line_refused(desk, NoLine, " ".join(some))
            for at in range(1, len(words)):
                self.assert_line_refused(desk, NoLine, " ".join(words[:at]))

    def test_blanks(self):
        desk = desk_told(THREE_LINES)
        for line in LINES:
            words = self.words_for(line)
            text = " ".join(words)
            for wrong in (" " + text, text + " ", " " + text + " ", "  " + text, text + "  "):
                self.assert_line_refused(desk, NoLine, wrong)
            for at in range(1, len(words)):
                self.assert_line_refused(desk, NoLine, " ".join(words[:at]) + "  " + " ".join(words[at:]))
        for line in ("", " ", "  ", " " * 1000):
            self.assert_line_refused(desk, NoLine, line)

    def test_first_words(self):
        desk = desk_told(THREE_LINES)
        for line in ("no", "Use b", "USE b", "used b", "us b", "names.", "a", "b", "7", "weight b", "span b", "within 0 9",
                     "profile", "put", "~", "use,b", "NAME", "x" * 1000, "help", "say names", "Names", "nam", "-", "rooms 1 1"):
            self.assert_line_refused(desk, NoLine, line)

    def test_words_that_are_no_numbers(self):
        desk = desk_told(THREE_LINES)
        for line in LINES:
            words = self.words_for(line)
            for at, kind in enumerate(line.split(" ")):
                if kind == "N":
                    for wrong in NO_NUMBERS:
                        self.assert_refused(NoLine, desk.say, " ".join(words[:at] + [wrong] + words[at + 1:]))
        self.assertEqual(desk.say("text"), "a 3..9 6\nb 0..5 4\nc 5..12 3")

    def test_numbers_of_twelve_figures(self):
        desk = Desk()
        self.assert_answers(desk, [
            ("put a -999999999999 999999999999 1000000000", "ok"),
            ("show a", "-999999999999 999999999999 1000000000"),
            ("depth -999999999999", "1"),
            ("depth 999999999999", "0"),
            ("room -999999999999 999999999999", "999999999999"),
            ("holders 0", "a"),
            ("meeting -999999999999 999999999999", "a"),
        ])
        self.assert_line_refused(desk, NoLine, "room 0 1000000000000")
        self.assert_line_refused(desk, NoLine, "move a 1000000000000")

    def test_no_line_goes_ahead_of_all_other_refusals(self):
        desk = desk_told(THREE_LINES)
        for line in ("put A 9 3 x", "put a 3 9 01", "put a 9 3", "out", "out zz zz", "move zz x", "clip zz 9 x", "weigh zz +1",
                     "back again", "again 1", "use A B", "twin", "pour zz zz", "show", "holders x", "meeting 9 x", "heaviest x",
                     "heaviest 0 0", "room 0 x", "clash zz zz", "use A ", " use A", "use  A"):
            self.assert_line_refused(desk, NoLine, line)


class RefusalTest(DeskCase):
    def test_each_deed_and_question(self):
        desk = desk_told(THREE_LINES)
        for line, kind in [
            ("put A 0 1 1", NoName), ("put 5 0 1 1", NoName), ("put abcdefghi 0 1 1", NoName), ("put A 9 3 -1", NoName),
            ("put a 0 1 1", Twice), ("put a 9 3 -1", Twice), ("put d 9 3 1", NoSpan), ("put d 3 3 -1", NoSpan),
            ("put d 0 1 -1", NoWeight), ("put d 0 1 1000000001", NoWeight), ("put d 0 1 999999999999", NoWeight),
            ("out d", NoName), ("out A", NoName), ("move d 1", NoName), ("move a 999999999999", NoSpan),
            ("move a 999999999991", NoSpan), ("move d 999999999999", NoName),
            ("clip d 9 3", NoName), ("clip a 9 3", NoSpan), ("clip a 9 20", Bare), ("clip a 0 3", Bare),
            ("weigh d -1", NoName), ("weigh a -1", NoWeight), ("weigh a 1000000001", NoWeight), ("again", NoDeed),
            ("show d", NoName), ("show A", NoName), ("show 7", NoName), ("meeting 9 3", NoSpan), ("meeting 3 3", NoSpan),
            ("room 0 0", NoCount), ("room 0 -1", NoCount), ("heaviest 0", NoCount), ("heaviest 21", NoCount),
            ("heaviest -1", NoCount), ("pour d", NoName), ("pour a", Twice), ("clash d", NoName),
        ]:
            self.assert_line_refused(desk, kind, line)
        self.assert_line_refused(Desk(), NoDeed, "back")
        self.assert_line_refused(Desk(), NoDeed, "again")

    def test_moves_by_twelve_figures(self):
        desk = desk_told(["put a 3 9 1"])
        self.assert_line_refused(desk, NoSpan, "move a 999999999991")
        self.assert_answers(desk, [("move a 999999999990", "ok"), ("show a", "999999999993 999999999999 1")])

    def test_names_of_shelves(self):
        desk = desk_told(THREE_LINES)
        for name in NO_NAMES:
            if name and " " not in name and "\n" not in name:
                self.assert_line_refused(desk, NoName, "use " + name)
                self.assert_line_refused(desk, NoName, "twin " + name)
                self.assert_line_refused(desk, NoName, "put " + name + " 0 1 1")
        self.assertEqual(desk.say("shelves"), "a")

    def test_twenty_shelves_and_a_twenty_first(self):
        for way in ("use", "twin"):
            desk = desk_told(["put x 0 1 1"])
            for number in range(19):
                self.assertEqual(desk.say(f"{way} {letters(number)}"), "ok")
            self.assertEqual(len(desk.say("shelves").split(" ")), 20)
            for line in ("use zz", "twin zz"):
                self.assert_line_refused(desk, Full, line)
            for line in ("use A", "twin A", "use abcdefghi", "twin 7"):
                self.assert_line_refused(desk, NoName, line)
            self.assert_answers(desk, [("use aa", "ok"), ("twin ab", "ok"), ("twin aa", "ok"), ("use a", "ok"),
                                       ("names", "x"), ("twin ab", "ok"), ("use ab", "ok"), ("names", "x")])
            self.assert_line_refused(desk, Full, "use zz")

    def test_sixty_spans_and_a_sixty_first(self):
        desk = desk_told(lines_for(SIXTY_STAIRS, [1] * 60))
        self.assert_line_refused(desk, Full, "put zz 0 1 1")
        desk.say("use b")
        desk.say("put zz 0 1 1")
        desk.say("use a")
        self.assert_line_refused(desk, Full, "pour b")
        self.assert_line_refused(desk, Twice, "pour a")

    def test_a_refused_line_leaves_the_deeds_taken_back(self):
        desk = desk_told(THREE_LINES + ["back", "back"])
        for line in ("put b 0 1 1", "out zz", "move b 999999999999", "clip b 50 60", "weigh b -1", "pour a", "use A", "no",
                     "twin A", "put q 0 1", "heaviest 0"):
            self.assertRaises(ShelfError, desk.say, line)
        self.assert_answers(desk, [("again", "ok"), ("again", "ok"), ("names", "a b c")])


class WholeTest(DeskCase):
    def test_two_desks_share_nothing(self):
        one, other = Desk(), Desk()
        for line in THREE_LINES + ["use b", "put x 0 1 1", "twin c"]:
            one.say(line)
        self.assert_answers(other, [("shelves", "a"), ("names", "none"), ("use b", "ok"), ("names", "none")])
        self.assert_line_refused(other, NoDeed, "back")
        other.say("put own 0 1 1")
        other.say("use c")
        self.assert_answers(one, [("shelves", "a b c"), ("names", "x"), ("use a", "ok"), ("names", "a b c")])

    def test_the_same_question_is_told_the_same(self):
        desk = desk_told(THREE_LINES + ["use b", "put x 0 1 1", "use a"])
        questions = ["shelves", "names", "show a", "holders 4", "meeting 0 9", "depth 4", "deepest", "cover", "room 0 3", "text",
                     "apart", "rows", "heaviest 1", "given", "nest", "loose", "clash b"]
        before = state_of(desk)
        told = [desk.say(line) for line in questions]
        self.assertEqual([desk.say(line) for line in questions], told)
        self.assertEqual(state_of(desk), before)

    def test_lines_do_what_shelves_do(self):
        """Say lines by chance, and do the same to shelves of one's own."""
        for seed in range(8):
            chance = random.Random(seed)
            desk, shelves, used = Desk(), {"a": Shelf()}, "a"
            for step in range(250):
                shelf = shelves[used]
                name, other = chance.choice("pqrs"), chance.choice("abc")
                low, high = chance_span(chance, -20, 20, 9)
                line, deed = chance.choice([
                    (f"put {name} {low} {high} 5", lambda: shelf.put(name, (low, high), 5)),
                    (f"put {name} {low} {high} 5", lambda: shelf.put(name, (low, high), 5)),
                    (f"out {name}", lambda: shelf.out(name)),
                    (f"move {name} {low}", lambda: shelf.move(name, low)),
                    (f"clip {name} {low} {high}", lambda: shelf.clip(name, (low, high))),
                    (f"weigh {name} {low}", lambda: shelf.weigh(name, low)),
                    ("back", lambda: shelf.back()),
                    ("back", lambda: shelf.back()),
                    ("again", lambda: shelf.again()),
                    (f"use {other}", None),
                    (f"twin {other}", None),
                    (f"pour {other}", lambda: shelf.pour(shelves[other])),
                ])
                if line.startswith("use"):
                    shelves.setdefault(other, Shelf())
                    used = other
                    self.assertEqual(desk.say(line), "ok")
                elif line.startswith("twin"):
                    if other != used:
                        shelves[other] = shelf.twin()
                    self.assertEqual(desk.say(line), "ok")
                else:
                    self.assert_same(desk, line, deed)
                self.assertEqual(desk.say("shelves"), " ".join(sorted(shelves)))
                self.assertEqual(desk.say("text"), show_shelf(shelves[used]) or "none")
                self.assertEqual(desk.say("clash a"),
                                 "; ".join(" ".join(row) for row in clashes(shelves[used], shelves["a"])) or "none")

    def assert_same(self, desk, line, deed):
        try:
            deed()
            wanted = "ok"
        except KeyError:
            wanted = NoName
        except ShelfError as refusal:
            wanted = refusal.__class__
        try:
            told = desk.say(line)
        except ShelfError as refusal:
            told = refusal.__class__
        self.assertEqual(told, wanted, line)

    def test_a_text_that_was_told_is_read(self):
        desk = desk_told(THREE_LINES)
        self.assertEqual(rows_on(read_shelf(desk.say("text"))), {"a": ((3, 9), 6), "b": ((0, 5), 4), "c": ((5, 12), 3)})

    def test_two_thousand_lines_at_the_bounds(self):
        chance = random.Random(183)
        spans = [chance_span(chance, LEAST, GREATEST, 10 ** 12) for at in range(60)]
        weights = [chance.randint(0, HEAVIEST) for at in range(60)]
        with soon(60):
            desk = desk_told(lines_for(spans, weights) + [f"twin {letters(number)}" for number in range(19)])
            lines = ["move aa 1", "weigh ab 5", "back", "again", "apart", "rows", "heaviest 20", "given", "nest", "loose",
                     "clash a", "text", "cover", "deepest", "room 0 999999999999", "names", "use aa", "use a"]
            for step in range(1921):
                desk.say(lines[step % len(lines)])
            self.assertEqual(len(desk.say("shelves").split(" ")), 20)


if __name__ == "__main__":
    unittest.main()
