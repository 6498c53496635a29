import itertools
import unittest

from bitlead.anyrow import any_row
from bitlead.fewest import how_few
from bitlead.leadings import led
from bitlead.onedeed import one_deed
from bitlead.rows import all_deeds, row_done, row_leading
from bitlead.sheet import run
from bitlead.shorter import shortened
from bitlead.undoing import unlike_words
from tests.drawing import (HALVED, all_leadings, drawer, drawn_leading, drawn_row, drawn_swap, some_deeds, some_evens,
                           some_unevens, some_words)
from tests.model import NAMES
from tests.sheetdrawing import deeds_row, drawn_sheet, lead_row, row_answer, sheet, undo_answer
from tests.sheetmodel import deed_said, deeds_said, first_bad, leading_said, word_said

WIDTHS = (1, 2, 3, 5, 8, 33, 64)
SHEET_WORDS = ("width", "lead", "row", "word", "leads", "same", "short", "undo", "halves", "deed", "few", "none",
               "lost", "unlike") + NAMES


def some_rows(draw, width):
    rows = [[], [("or", 0)], [("turn", 0), ("left", 0)], [("left", width), ("or", 2 ** width - 1)]]
    rows += [[deed] for deed in draw.sample(some_deeds(draw, width), 6)]
    rows += [[("turn", draw.randrange(width)) for turn in range(3)]]
    rows += [[drawn_swap(draw, width), ("turn", 1), drawn_swap(draw, width)]] if width > 1 else []
    return rows + [drawn_row(draw, width, many) for many in (2, 3, 8)]


def some_leadings(draw, width):
    return some_evens(draw, width)[:6] + some_unevens(draw, width)[:6] + [drawn_leading(draw, width)]


class Asks(unittest.TestCase):
    def check(self, text, asked):
        self.assertIsNone(first_bad(text), text)
        told = run(text)
        self.assertIs(type(told), list)
        self.assertEqual([type(part) for part in told], [str] * len(told))
        self.assertEqual(told, asked, text)

    def test_nothing_asked(self):
        for width in range(1, 65):
            self.check(sheet(width), [])
        self.check(sheet(2, "lead a 0 1", "row b"), [])

    def test_word(self):
        draw = drawer(190)
        for width in WIDTHS:
            for leading in some_leadings(draw, width):
                for word in some_words(draw, width)[-5:]:
                    text = sheet(width, lead_row("a", leading), f"word a {word_said(width, word)}")
                    self.check(text, [word_said(width, led(leading, word))])
            for row in some_rows(draw, width):
                for word in some_words(draw, width)[-5:]:
                    text = sheet(width, deeds_row(width, "a", row), f"word a {word_said(width, word)}")
                    self.check(text, [word_said(width, row_done(width, row, word))])

    def test_every_word_of_small_widths(self):
        for width in (1, 2, 3):
            words = [f"{word:0{width}b}" for word in range(2 ** width)]
            asks = [f"word a {word}" for word in words]
            self.check(sheet(width, "row a", *asks), words)
            self.check(sheet(width, lead_row("a", (-2,) * width), *asks), ["1" * width] * len(words))

    def test_the_highest_place_goes_first(self):
        self.check(sheet(4, "lead a 1 0 - +", "word a 0101"), ["1010"])
        self.check(sheet(8, "row a left 1", "word a 00000001", "word a 11000000"), ["00000010", "10000000"])
        self.check(sheet(8, "row a and 00001111", "leads a"), ["0 1 2 3 - - - -"])

    def test_leads(self):
        draw = drawer(191)
        for width in WIDTHS:
            for leading in some_leadings(draw, width):
                self.check(sheet(width, lead_row("a", leading), "leads a"), [leading_said(leading)])
            for row in some_rows(draw, width):
                text = sheet(width, deeds_row(width, "a", row), "leads a")
                self.check(text, [leading_said(row_leading(width, row))])

    def test_every_leading_of_small_widths(self):
        for width in (1, 2):
            for leading in all_leadings(width):
                self.check(sheet(width, lead_row("a", leading), "leads a"), [leading_said(leading)])

    def test_every_deed_is_read(self):
        for width in (1, 2, 3):
            for deed in all_deeds(width):
                text = sheet(width, f"row a {deed_said(width, deed)}", "leads a")
                self.check(text, [leading_said(row_leading(width, [deed]))])
        draw = drawer(192)
        for width in (8, 33, 64):
            for deed in draw.sample(some_deeds(draw, width), 60):
                text = sheet(width, f"row a {deed_said(width, deed)}", "leads a")
                self.check(text, [leading_said(row_leading(width, [deed]))])

    def test_same_and_unlike(self):
        draw = drawer(193)
        for width in WIDTHS:
            leadings = some_leadings(draw, width)[:8] + [drawn_leading(draw, width)]
            for one, other in itertools.product(leadings, repeat=2):
                word = unlike_words(one, other)
                asked = "same" if word is None else f"unlike {word_said(width, word)}"
                self.check(sheet(width, lead_row("a", one), lead_row("b", other), "same a b"), [asked])

    def test_same_of_either_sort(self):
        things = ("lead a - 0 1", "row b left 1", "row c left 1 / or 001", "lead d + 0 1", "row e")
        asks = ("same a b", "same b a", "same b c", "same c d", "same d c", "same a d", "same a a", "same b b",
                "same e a", "same e b", "same e e")
        asked = ["same", "same", "unlike 000", "same", "same", "unlike 000", "same", "same", "unlike 001", "unlike 001",
                 "same"]
        self.check(sheet(3, *things, *asks), asked)

    def test_short(self):
        draw = drawer(194)
        for width in WIDTHS:
            for row in some_rows(draw, width):
                text = sheet(width, deeds_row(width, "a", row), "short a")
                self.check(text, [row_answer(width, shortened(width, row))])
        self.check(sheet(4, "row a", "short a"), ["none"])
        self.check(sheet(4, "row a turn 1 / turn 3", "short a"), ["none"])
        self.check(sheet(4, "row a left 1 / left 1 / copy 0100 -2", "short a"), ["left 2 / copy 0100 -2"])
        self.check(sheet(4, "row a and 1110 / and 0111", "short a"), ["and 0110"])

    def test_undo(self):
        draw = drawer(195)
        for width in WIDTHS:
            for row in some_rows(draw, width):
                text = sheet(width, deeds_row(width, "a", row), "undo a")
                self.check(text, [undo_answer(width, row)])
        self.check(sheet(4, "row a", "undo a"), ["none"])
        self.check(sheet(4, "row a turn 1", "undo a"), ["turn 3"])
        self.check(sheet(4, "row a swap 0101 1", "undo a"), ["swap 0101 1"])
        self.check(sheet(4, "row a left 1", "undo a"), ["lost 0"])
        self.check(sheet(4, "row a turn 1 / or 0000 / copy 0001 1 / left 1", "undo a"), ["lost 2"])

    def test_halves(self):
        draw = drawer(196)
        for width in WIDTHS + (4, 16, 32):
            for leading in some_leadings(draw, width):
                asked = deeds_said(width, any_row(leading)) if width in HALVED else "none"
                self.check(sheet(width, lead_row("a", leading), "halves a"), [asked])
            for row in some_rows(draw, width):
                asked = deeds_said(width, any_row(row_leading(width, row))) if width in HALVED else "none"
                self.check(sheet(width, deeds_row(width, "a", row), "halves a"), [asked])

    def test_halves_of_each_width(self):
        for width in range(1, 65):
            told = run(sheet(width, "row a", "halves a"))
            self.assertEqual(told == ["none"], width not in HALVED, width)

    def test_deed(self):
        draw = drawer(197)
        for width in WIDTHS:
            for leading in some_leadings(draw, width):
                deed = one_deed(leading)
                asked = "none" if deed is None else deed_said(width, deed)
                self.check(sheet(width, lead_row("a", leading), "deed a"), [asked])
            for deed in draw.sample(some_deeds(draw, width), 6):
                told = run(sheet(width, deeds_row(width, "a", [deed]), "deed a"))
                asked = deed_said(width, one_deed(row_leading(width, [deed])))
                self.assertEqual(told, [asked])
        self.check(sheet(2, "lead a - +", "deed a"), ["none"])
        self.check(sheet(4, "lead a 2 3 0 1", "deed a"), ["turn 2"])

    def test_a_told_deed_can_be_handed_in_again(self):
        draw = drawer(198)
        for width in WIDTHS:
            for deed in draw.sample(some_deeds(draw, width), 6):
                rows = [deeds_row(width, "a", [deed]), "deed a"]
                told = run(sheet(width, *rows))
                self.assertEqual(run(sheet(width, *rows, f"row b {told[0]}", "same a b")), told + ["same"])

    def test_a_told_row_can_be_handed_in_again(self):
        draw = drawer(199)
        for width in WIDTHS:
            for row in some_rows(draw, width):
                rows = [deeds_row(width, "a", row), "short a", "halves a"]
                told = run(sheet(width, *rows))
                short = f"row b {told[0]}" if told[0] != "none" else "row b"
                self.assertEqual(run(sheet(width, *rows, short, "same a b")), told + ["same"])
                if told[1] != "none":
                    self.assertEqual(run(sheet(width, *rows, f"row c {told[1]}", "same a c")), told + ["same"])

    def test_few(self):
        for width in (1, 2, 3):
            deeds = all_deeds(width)
            for leading in all_leadings(width):
                self.check(sheet(width, lead_row("a", leading), "few a"), [f"{how_few(leading, deeds)}"])
        self.check(sheet(3, "row a", "few a", "row b left 1 / left 1", "few b"), ["0", "1"])

    def test_drawn_sheets_in_any_order(self):
        draw = drawer(200)
        for width in WIDTHS:
            for turn in range(6):
                rows, asked = drawn_sheet(draw, width, 30)
                self.check(sheet(width, *rows), asked)


class Writing(unittest.TestCase):
    def test_more_blanks(self):
        rows = ["width 4", "lead a 1 0 - +", "row b turn 1 / swap 0101 1", "word a 0101", "same a b", "undo b"]
        asked = run("\n".join(rows))
        self.assertEqual(asked, ["1010", "unlike 0000", "swap 0101 1 / turn 3"])
        for ahead, between, behind in itertools.product(("", " ", "   "), repeat=3):
            wide = [ahead + (" " + between).join(row.split(" ")) + behind for row in rows]
            self.assertEqual(run("\n".join(wide)), asked)

    def test_rows_without_words(self):
        rows = ["width 4", "lead a 1 0 - +", "word a 0101", "leads a"]
        for empty in ("", " ", "     "):
            for at in range(5):
                self.assertEqual(run("\n".join(rows[:at] + [empty] * 3 + rows[at:])), ["1010", "1 0 - +"])
        self.assertEqual(run("\n\n  \n" + "\n\n \n".join(rows) + "\n\n"), ["1010", "1 0 - +"])

    def test_names_that_are_words_of_sheets(self):
        for name in SHEET_WORDS:
            rows = [f"lead {name} 1 0", f"leads {name}", f"same {name} {name}", f"word {name} 01", f"few {name}"]
            self.assertEqual(run(sheet(2, *rows)), ["1 0", "same", "10", "1"], name)
            rows = [f"row {name} left 1", f"leads {name}", f"short {name}", f"undo {name}", f"word {name} 01"]
            self.assertEqual(run(sheet(2, *rows)), ["- 0", "left 1", "lost 0", "10"], name)
            self.assertEqual(run(sheet(2, f"row {name}", f"short {name}", f"deed {name}")), ["none", "and 11"], name)

    def test_all_these_names_on_one_sheet(self):
        rows = [f"row {name}" for name in SHEET_WORDS] + [f"leads {name}" for name in SHEET_WORDS]
        self.assertEqual(run(sheet(3, *rows)), ["0 1 2"] * len(SHEET_WORDS))

    def test_short_and_long_names(self):
        for name in ("a", "z", "az", "abcdefgh", "zzzzzzzz"):
            self.assertEqual(run(sheet(1, f"lead {name} +", f"leads {name}")), ["+"])
            self.assertEqual(run(sheet(1, f"row {name} or 1", f"leads {name}")), ["+"])

    def test_two_things_in_another_order(self):
        things = ["lead a 1 0 - +", "row b left 1 / or 0001"]
        asks = ["same a b", "leads b"]
        self.assertEqual(run(sheet(4, *things, *asks)), run(sheet(4, *things[::-1], *asks)))
        self.assertEqual(run(sheet(4, *things, *asks)), run(sheet(4, *things, *asks[::-1]))[::-1])
        mixed = [things[1], "leads b", things[0], "leads a"]
        self.assertEqual(run(sheet(4, *mixed)), ["+ 0 1 2", "1 0 - +"])

    def test_the_same_ask_twice(self):
        self.assertEqual(run(sheet(2, "row a turn 1", "leads a", "leads a", "undo a", "undo a")),
                         ["1 0", "1 0", "turn 1", "turn 1"])

    def test_the_told_list_is_the_askers_own(self):
        text = sheet(2, "row a turn 1", "leads a")
        told = run(text)
        told.append(None)
        self.assertEqual(run(text), ["1 0"])
        self.assertIsNot(run(text), run(text))

    def test_as_large_as_may_be(self):
        draw = drawer(201)
        leading = drawn_leading(draw, 64)
        rows = [lead_row("a", leading)] + ["leads a"] * 98
        self.assertEqual(run(sheet(64, *rows)), [leading_said(leading)] * 98)
        row = [("swap", 2 ** 32 - 1, 32), ("copy", 2 ** 62 - 1, 1), ("turn", 63), ("gather", 2 ** 64 - 1), ("left", 64)]
        text = sheet(64, deeds_row(64, "a", row), "short a")
        self.assertEqual(run(text), [deeds_said(64, shortened(64, row))])
        self.assertLessEqual(max(len(part) for part in text.split("\n")), 400)


if __name__ == "__main__":
    unittest.main()
