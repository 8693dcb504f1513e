"""Points 2 and 17: spans, covers and shelves as texts, and read of texts."""

import itertools
import random
import unittest

from helper import (
    AskCase,
    FAR,
    GREATEST,
    HEAVIEST,
    LEAST,
    LINE,
    NO_NAMES,
    NO_SPANS,
    NAMED_LISTS,
    SIXTY_STAIRS,
    answers_of,
    chance_lists,
    chance_span,
    history_of,
    letters,
    rows_on,
    shelf_made_of,
    shelf_of_spans,
    soon,
)
from spanshelf.covers import cover_of
from spanshelf.errors import NoCover, NoDeed, NoSpan, NoText
from spanshelf.shelf import Shelf
from spanshelf.texts import read_cover, read_shelf, read_span, show_cover, show_shelf, show_span

SIGNS = "".join(chr(code) for code in range(32, 127)) + "\n"

SPANS_AND_TEXTS = [
    ((0, 1), "0..1"),
    ((3, 9), "3..9"),
    ((-1, 0), "-1..0"),
    ((-20, -3), "-20..-3"),
    ((-5, 10), "-5..10"),
    (LINE, "-999999999999..999999999999"),
    ((100, 100000000000), "100..100000000000"),
]

NO_SPAN_TEXTS = [
    "", " ", "\n", "..", "3", "3..", "..9", "3.9", "3...9", "3....9", "3..9..", "..3..9", "3..9..12", "3 9", "3,9", "3-9",
    " 3..9", "3..9 ", "3 ..9", "3.. 9", "3..9\n", "\n3..9", "3..\n9", "03..9", "3..09", "00..9", "-03..9", "-0..9",
    "-9..-0", "-5..00", "+3..9", "3..+9", "--3..9", "3..--9", "-..9", "3..-", "3-..9", "3..3", "9..3", "-3..-9",
    "0..1000000000000", "-1000000000000..0", "999999999999..1000000000000", "0..0", "a..b", "3..x", "0x3..9", "1_0..20",
    "1e3..2000", "3.0..9", "(3, 9)", "3..9.", ".3..9", "0.." + "9" * 13, "-" + "9" * 13 + "..0", "3..9 12..15",
    "0.." + "9" * 5000, "-" + "9" * 5000 + "..0", "0" * 5000 + "..9", "0.." + "0" * 4999 + "9", "." * 10000, "-" * 10000,
    "9" * 10000,
]

OTHER_FIGURES = ["\u0663..9", "3..\u0669", "\uff13..\uff19", "3..\u00b2", "\u22123..9", "\u0967..9", "3..9\u00a0"]


def near_texts(text, signs):
    """Give every text that comes of this one by a sign more, a sign less, or another sign."""
    for at in range(len(text) + 1):
        for sign in signs:
            yield text[:at] + sign + text[at:]
            if at < len(text):
                yield text[:at] + sign + text[at + 1:]
        if at < len(text):
            yield text[:at] + text[at + 1:]
        if at + 1 < len(text):
            yield text[:at] + text[at + 1] + text[at] + text[at + 2:]


class TextCase(AskCase):
    def assert_near_texts_right(self, read, show, text, signs=SIGNS):
        """A text is read to what it is the text of, or refused with NoText, and nothing else."""
        let_by = 0
        for other in near_texts(text, signs):
            try:
                found = read(other)
            except NoText as refusal:
                self.assertIs(refusal.__class__, NoText)
                continue
            let_by += 1
            self.assertEqual(show(found), other)
        return let_by


class SpanTextTest(TextCase):
    def test_there_and_back(self):
        for span, text in SPANS_AND_TEXTS:
            self.assertEqual(show_span(span), text)
            self.assertEqual(read_span(text), span)
            self.assertIs(read_span(text).__class__, tuple)

    def test_all_small_spans(self):
        for low in range(-12, 12):
            for high in range(low + 1, 13):
                text = str(low) + ".." + str(high)
                self.assertEqual(show_span((low, high)), text)
                self.assertEqual(read_span(text), (low, high))

    def test_spans_by_chance(self):
        chance = random.Random(171)
        for turn in range(500):
            span = chance_span(chance, LEAST, GREATEST, 10 ** chance.randint(0, 12))
            self.assertEqual(read_span(show_span(span)), span)

    def test_no_span_is_shown(self):
        for wrong in NO_SPANS:
            self.assert_refused(NoSpan, show_span, wrong)

    def test_other_texts(self):
        with soon():
            for text in NO_SPAN_TEXTS + OTHER_FIGURES:
                self.assert_refused(NoText, read_span, text)

    def test_changes_by_a_sign(self):
        for span, text in SPANS_AND_TEXTS:
            self.assertGreater(self.assert_near_texts_right(read_span, show_span, text), 0)

    def test_all_short_texts(self):
        right = {str(low) + ".." + str(high) for low in range(-99, 100) for high in range(low + 1, 100)}
        found = set()
        for many in range(6):
            for row in itertools.product("-.019 \n", repeat=many):
                text = "".join(row)
                try:
                    read_span(text)
                    found.add(text)
                except NoText:
                    pass
        self.assertEqual(found, {text for text in right if len(text) < 6 and set(text) <= set("-.019")})


class CoverTextTest(TextCase):
    def test_there_and_back(self):
        for cover, text in [
            ([], ""),
            ([(0, 5)], "0..5"),
            ([(0, 5), (6, 9)], "0..5 6..9"),
            ([(-20, -3), (0, 1), (2, 100)], "-20..-3 0..1 2..100"),
            ([(LEAST, -1), (0, GREATEST)], "-999999999999..-1 0..999999999999"),
        ]:
            self.assertEqual(show_cover(cover), text)
            self.assertEqual(read_cover(text), cover)
            self.assertIs(read_cover(text).__class__, list)
        for spans in list(NAMED_LISTS.values()) + list(chance_lists(172, 60)):
            cover = cover_of(spans)
            self.assertEqual(read_cover(show_cover(cover)), cover)

    def test_two_hundred_spans_and_one_more(self):
        cover = [(10 * k - 10 ** 12 + 1, 10 * k + 5 - 10 ** 12) for k in range(200)]
        with soon():
            self.assertEqual(read_cover(show_cover(cover)), cover)
            self.assertLess(len(show_cover(cover)), 10000)
            more = cover + [(0, 1)]
            self.assert_refused(NoCover, show_cover, more)
            self.assert_refused(NoText, read_cover, show_cover(cover) + " 0..1")
            self.assert_refused(NoText, read_cover, " ".join(f"{3 * k}..{3 * k + 1}" for k in range(201)))
            self.assert_refused(NoText, read_cover, " ".join(f"{3 * k}..{3 * k + 1}" for k in range(700)))

    def test_no_cover_is_shown(self):
        for wrong in NO_SPANS:
            for cover in ([wrong], [(0, 1), wrong], [wrong, (5, 6)]):
                self.assert_refused(NoSpan, show_cover, cover)
        for cover in ([(0, 5), (5, 9)], [(0, 5), (4, 9)], [(6, 9), (0, 5)], [(0, 5), (0, 5)]):
            self.assert_refused(NoCover, show_cover, cover)

    def test_other_texts(self):
        for text in [
            " ", "\n", "0..5 ", " 0..5", "0..5  6..9", "0..5\n6..9", "0..5\t6..9", "0..5,6..9", "0..5 6..9\n", "0..5 6..9 ",
            "0..5 5..9", "0..5 4..9", "6..9 0..5", "0..5 0..5", "0..5 6..6", "0..5 9..6", "0..5 6", "0..5 6..", "0..5 06..9",
            "0..5 +6..9", "-0..5 6..9", "0..5 6..1000000000000", "none", "[]", "0..5 6..9 x", "0..56..9", " " * 10000,
            "0..5 6.." + "9" * 5000,
        ] + [text for text in NO_SPAN_TEXTS if text not in ("", "3..9 12..15")] + OTHER_FIGURES:
            self.assert_refused(NoText, read_cover, text)

    def test_changes_by_a_sign(self):
        self.assertEqual(self.assert_near_texts_right(read_cover, show_cover, ""), 0)
        for text in ("0..5 6..9", "-20..-3 0..1 2..100", "-999999999999..-1 0..999999999999"):
            self.assertGreater(self.assert_near_texts_right(read_cover, show_cover, text), 0)

    def test_own(self):
        cover = [(0, 5), (6, 9)]
        self.assert_own(show_cover, cover)
        self.assert_own(read_cover, "0..5 6..9")
        self.assert_own(read_cover, "")


class ShelfTextTest(TextCase):
    def test_there_and_back(self):
        for rows, text in [
            ({}, ""),
            ({"a": ((0, 5), 7)}, "a 0..5 7"),
            ({"b": ((0, 5), 0), "a": ((-3, 9), HEAVIEST)}, "a -3..9 1000000000\nb 0..5 0"),
            ({"z": ((0, 5), 1), "ab": ((0, 5), 1), "abcdefgh": (LINE, 2), "b": ((0, 5), 1)},
             "ab 0..5 1\nabcdefgh -999999999999..999999999999 2\nb 0..5 1\nz 0..5 1"),
        ]:
            self.assertEqual(show_shelf(shelf_made_of(rows)), text)
            shelf = read_shelf(text)
            self.assertIs(shelf.__class__, Shelf)
            self.assertEqual(rows_on(shelf), rows)
        for spans in list(NAMED_LISTS.values()) + list(chance_lists(173, 30)):
            shelf = shelf_of_spans(spans)
            again = read_shelf(show_shelf(shelf))
            self.assertEqual(answers_of(again), answers_of(shelf))
            self.assertEqual(show_shelf(again), show_shelf(shelf))

    def test_a_shelf_that_was_read_has_no_deeds_and_takes_new_ones(self):
        for text in ("", "a 0..5 7", "a -3..9 1000000000\nb 0..5 0"):
            shelf = read_shelf(text)
            self.assertEqual(history_of(shelf), (rows_on(shelf), [], []))
            self.assert_refused_by(shelf, NoDeed, shelf.back)
            self.assert_refused_by(shelf, NoDeed, shelf.again)
            shelf.put("new", (7, 8), 9)
            shelf.back()
            self.assertEqual(show_shelf(shelf), text)
            self.assertEqual(show_shelf(read_shelf(text)), text)
            shelf.again()
            self.assertEqual(shelf.span("new"), (7, 8))

    def test_shelves_of_one_text_share_nothing(self):
        one, other = read_shelf("a 0..5 7"), read_shelf("a 0..5 7")
        one.move("a", 3)
        self.assertEqual(show_shelf(other), "a 0..5 7")

    def test_showing_changes_nothing(self):
        shelf = shelf_of_spans(SIXTY_STAIRS)
        shelf.out("aa")
        shelf.back()
        before = history_of(shelf)
        self.assertEqual(show_shelf(shelf), show_shelf(shelf))
        self.assertEqual(history_of(shelf), before)

    def test_sixty_rows_and_sixty_one(self):
        rows = [f"{letters(k)} {LEAST + k}..{GREATEST - k} {HEAVIEST - k}" for k in range(61)]
        with soon():
            self.assertEqual(show_shelf(read_shelf("\n".join(rows[:60]))), "\n".join(rows[:60]))
            self.assert_refused(NoText, read_shelf, "\n".join(rows))
            self.assert_refused(NoText, read_shelf, "\n".join(f"{letters(k)} 0..1 1" for k in range(600)))

    def test_other_texts(self):
        for text in [
            " ", "\n", "\n\n", "a", "a 0..5", "a 0..5 ", "a 0..5 7\n", "\na 0..5 7", "a 0..5 7 ", " a 0..5 7", "a  0..5 7",
            "a 0..5  7", "a 0..5 7 8", "0..5 7", "a 0 5 7", "a 0..5 7\n\nb 0..5 7", "a 0..5 7 b 0..5 7", "a\n0..5\n7",
            "a 0..5 07", "a 0..5 +7", "a 0..5 -7", "a 0..5 -0", "a 0..5 00", "a 0..5 1000000001", "a 0..5 x", "a 0..5 7.0",
            "a 5..5 7", "a 9..5 7", "a 00..5 7", "a -0..5 7", "a 0..1000000000000 7", "a 0...5 7", "a 7 0..5",
            "A 0..5 7", "a1 0..5 7", "abcdefghi 0..5 7", "a 0..5 7\na 0..5 7", "a 0..5 7\na 1..5 8", "b 0..5 7\na 0..5 7",
            "ab 0..5 7\na 0..5 7", "a 0..5 7\nb 0..5 7\n", "a 0..5 7\nb 0..5", "a 0..5 7\r\nb 0..5 7", "a\t0..5\t7", "none",
            "a 0..5 " + "9" * 5000, "a 0.." + "9" * 5000 + " 7", "a 0..5 " + "0" * 5000, "a" * 10000, "a 0..5 \u0667",
            "a 0..5 7\n b 0..5 7", "a 0..5 7 \nb 0..5 7", "a 0..5 7\nc 0..5 7\nb 0..5 7",
        ]:
            self.assert_refused(NoText, read_shelf, text)
        for name in NO_NAMES:
            self.assert_refused(NoText, read_shelf, name + " 0..5 7")
        for text in NO_SPAN_TEXTS:
            self.assert_refused(NoText, read_shelf, "a " + text + " 7")

    def test_changes_by_a_sign(self):
        self.assertEqual(self.assert_near_texts_right(read_shelf, show_shelf, ""), 0)
        for text in ("a 0..5 7", "a -3..9 1000000000\nb 0..5 0", "ab 10..15 9\nabcdefgh 8..9 2\nb -5..-1 1"):
            self.assertGreater(self.assert_near_texts_right(read_shelf, show_shelf, text), 0)

    def test_numbers_of_the_weight(self):
        for weight in (0, 1, 9, 10, 999999999, HEAVIEST):
            self.assertEqual(read_shelf(f"a 0..1 {weight}").weight("a"), weight)
        for weight in (-1, HEAVIEST + 1, 10 ** 11, 10 ** 12, FAR, -FAR):
            self.assert_refused(NoText, read_shelf, f"a 0..1 {weight}")


if __name__ == "__main__":
    unittest.main()
