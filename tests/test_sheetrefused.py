import unittest

from bitlead.errors import BadRow, LeadError
from bitlead.sheet import run
from tests.drawing import drawer
from tests.sheetdrawing import drawn_sheet, sheet
from tests.sheetmodel import first_bad

START = ["width 4", "lead a 1 0 - +", "row b turn 1 / or 1000", "leads a", "short b"]

FIRST_ROWS = ["width", "width 0", "width 65", "width 66", "width 100", "width 640", "width 04", "width 00", "width 004",
              "width +4", "width -4", "width -0", "width 4 4", "width 1 0", "width four", "Width 4", "WIDTH 4",
              "widths 4", "wid 4", "width4", "width 4.", "width 4.0", "width 0x4", "width 1_0", "width 4/", "width /",
              "width -", "width +", "4", "4 width", "lead a 0", "row a", "leads a", "word a 0", "none", "/", "#",
              "width " + "1" * 380]

# Each way in which a row can't stand behind START, and the rows that show it.
WAYS = {
    "no word of sheets": [
        "leed c 0 1 2 3", "a", "b", "/", "#", "# leads a", "Leads a", "LEADS a", "leads: a", "answer a", "turn 1",
        "and 1111", "none", "0101", "lead,c 0 1 2 3", "words a 0101", "lost a", "unlike a b", "leadsa", "-", "+", "0",
        "a leads", "shortened b", "any a", "even a", "back a",
    ],
    "a second width": [
        "width 4", "width 5", "width", "width 64", "width a",
    ],
    "words too many or too few of things": [
        "lead", "row", "lead c", "lead c 0", "lead c 0 1 2", "lead c 0 1 2 3 0", "lead c 0 1 2 3 -",
        "lead c 0 1 2 3 /", "lead 0 1 2 3", "lead c 0123", "lead c 0,1,2,3", "lead c / 0 1 2 3",
    ],
    "words too many or too few of asks": [
        "word", "word a", "word 0101", "word a 0101 0101", "word a b 0101", "word a 01 01", "leads", "leads a a",
        "leads a b", "same", "same a", "same a b a", "same a a a", "halves", "halves a a", "deed", "deed a a", "few",
        "short", "short b b", "undo", "undo b b", "leads a /", "short b / b",
    ],
    "names": [
        "lead C 0 1 2 3", "lead cC 0 1 2 3", "lead Cc 0 1 2 3", "lead abcdefghi 0 1 2 3", "lead c1 0 1 2 3",
        "lead 1 0 1 2 3", "lead 1c 0 1 2 3", "lead c_c 0 1 2 3", "lead - 0 1 2 3", "lead / 0 1 2 3", "lead c. 0 1 2 3",
        "lead c' 0 1 2 3", "lead ` 0 1 2 3", "lead { 0 1 2 3", "row C", "row cC left 1", "row abcdefghi",
        "row abcdefghijkl left 1", "row c1", "row 1", "row c-c", "row / left 1", "row c_", "row @", "row [",
        "row ~ left 1",
    ],
    "names there already": [
        "lead a 0 1 2 3", "lead b 0 1 2 3", "row a", "row b", "row a left 1", "row b turn 1 / or 1000",
        "lead a 1 0 - +",
    ],
    "names not there": [
        "leads c", "word c 0101", "same c a", "same a c", "same c c", "halves c", "deed c", "short c", "undo c",
        "leads A", "leads aa", "short B", "undo bb", "word 0101 a", "same a B", "leads leads", "leads 0", "leads -",
        "halves b/", "deed lead",
    ],
    "entries": [
        "lead c 0 1 2 4", "lead c 4 0 0 0", "lead c 0 1 2 64", "lead c 0 1 2 00", "lead c 0 1 2 03", "lead c 01 1 2 3",
        "lead c 0 1 2 +3", "lead c 0 1 2 -1", "lead c 0 1 2 -2", "lead c 0 1 2 -0", "lead c 0 1 2 --",
        "lead c 0 1 2 ++", "lead c 0 1 2 -+", "lead c 0 1 2 1_0", "lead c 0 1 2 _", "lead c 0 1 2 x", "lead c 0 1 2 a",
        "lead c 0 1 2 0x1", "lead c 0 1 2 1.", "lead c 0 1 2 /", "lead c 0 1 2 3,", "lead c 0 1 2 none",
        "lead c -3 1 2 3", "lead c 0 1 2 1e0", "lead c 0 1 2 " + "1" * 300, "lead c 0 1 2 " + "0" * 300,
    ],
    "words of bits": [
        "word a 010", "word a 01010", "word a 0", "word a 00000000", "word a 0102", "word a 010a", "word a 01-1",
        "word a 01_1", "word a 0b01", "word a +101", "word a -101", "word a 5", "word a 1234", "word a OO01",
        "word b 010", "word b 01010", "word a 0101/", "word a b", "word a 010.",
    ],
    "masks": [
        "row c and 010", "row c and 01010", "row c and 0102", "row c and 5", "row c and 0b01", "row c and -101",
        "row c or 010", "row c or 01010", "row c or 01_1", "row c gather 111", "row c gather 11111",
        "row c gather 111x", "row c strew 1", "row c strew 11110", "row c strew 1 1 1 1", "row c swap 001 1",
        "row c swap 00001 1", "row c swap 0002 1", "row c copy 001 1", "row c copy 00001 1", "row c copy 000a 1",
        "row c and +111", "row c or ----", "row c and 1",
    ],
    "numbers as they are written": [
        "row c left 01", "row c left 00", "row c left +1", "row c left -0", "row c left 1_0", "row c left 1.0",
        "row c left 0x1", "row c left x", "row c left -", "row c left +", "row c right 01", "row c right -0",
        "row c right _1", "row c right 1_", "row c turn 01", "row c turn +1", "row c turn -0", "row c turn 0_1",
        "row c swap 0001 01", "row c swap 0001 +1", "row c swap 0001 1_", "row c swap 0001 1.", "row c copy 0001 01",
        "row c copy 0001 +1", "row c copy 1000 -01", "row c copy 1000 --1", "row c copy 1000 - 1",
        "row c copy 1000 1-", "row c copy 0000 -0", "row c copy 0000 -00", "row c left 0001", "row c turn 0010",
    ],
    "numbers beyond": [
        "row c left 5", "row c left 64", "row c left -1", "row c right 5", "row c right -1", "row c turn 4",
        "row c turn 5", "row c turn -1", "row c swap 0001 0", "row c swap 0000 0", "row c swap 0000 4",
        "row c swap 0000 -1", "row c swap 1000 -1", "row c swap 0001 4", "row c copy 0001 0", "row c copy 0000 0",
        "row c copy 0000 4", "row c copy 0000 -4", "row c copy 0001 4", "row c left 100", "row c left " + "1" * 300,
        "row c copy 0001 " + "-" + "1" * 300,
    ],
    "deeds that are none for the width": [
        "row c swap 1000 1", "row c swap 0011 1", "row c swap 0101 2", "row c swap 0100 2", "row c swap 0010 3",
        "row c copy 1000 1", "row c copy 0001 -1", "row c copy 0100 2", "row c copy 0010 -2", "row c copy 1111 1",
    ],
    "deeds with words too many or too few": [
        "row c and", "row c or", "row c left", "row c right", "row c turn", "row c swap", "row c gather",
        "row c strew", "row c copy", "row c and 1111 1", "row c or 0000 0", "row c left 1 1", "row c left 0001 1",
        "row c turn 1 2", "row c swap 0001", "row c swap 1", "row c swap 1 0001", "row c swap 0001 1 1",
        "row c gather 1111 1", "row c strew 1111 1", "row c copy 0001", "row c copy 1", "row c copy 1 0001",
        "row c copy 0001 1 1", "row c 1111", "row c 1", "row c 0001 1",
    ],
    "deeds by other words": [
        "row c xor 1111", "row c And 1111", "row c AND 1111", "row c none", "row c nothing 1", "row c lefts 1",
        "row c shift 1", "row c swaps 0001 1", "row c - 1", "row c not 1111", "row c a", "row c b", "row c left 1 / b",
        "row c row 1", "row c up 1", "row c mask 1111",
    ],
    "strokes": [
        "row c left 1/right 1", "row c left 1/ right 1", "row c left 1 /right 1", "row c left 1 // right 1",
        "row c left 1 / / right 1", "row c /", "row c / /", "row c left 1 /", "row c / left 1", "row c left 1 right 1",
        "row c left 1 , right 1", "row c left 1 | right 1", "row c left / 1", "row c swap 0001 / 1",
        "row c left 1 \\ right 1", "row c/left 1", "row c left 1 / right 1 /", "row c left 1 / left 5",
        "row c left 5 / left 1", "row c left 1 / left 1 / left",
    ],
    "asks of the wrong sort": [
        "short a", "undo a",
    ],
    "few where the width is above 3": [
        "few a", "few b",
    ],
}

FINE_ROWS = ["lead c 0 1 2 3", "lead c - + - +", "lead abcdefgh 3 3 3 3", "row c", "row c left 0", "row c left 4",
             "row c right 4", "row c turn 3", "row c turn 0", "row c swap 0001 1", "row c swap 0101 1",
             "row c swap 0011 2", "row c swap 0001 3", "row c swap 0000 3", "row c copy 0111 1", "row c copy 1110 -1",
             "row c copy 0001 3", "row c copy 1000 -3", "row c copy 0000 -3", "row c gather 0000", "row c strew 1111",
             "row c and 0000 / or 1111", "row row", "lead lead 0 1 2 3", "word a 0101", "leads b", "same a b",
             "same b b", "halves a", "halves b", "deed a", "deed b", "short b", "undo b"]


class Refused(unittest.TestCase):
    def check_bad(self, text, number):
        self.assertEqual(first_bad(text), number, text)
        with self.assertRaises(BadRow) as caught:
            run(text)
        self.assertEqual(caught.exception.row, number, text)
        self.assertIs(type(caught.exception.row), int)
        self.assertIsInstance(caught.exception, LeadError)

    def check_rows(self, rows, number):
        self.check_bad("\n".join(rows), number)

    def test_rows_that_can_stand(self):
        for row in FINE_ROWS:
            self.assertIsNone(first_bad("\n".join(START + [row])), row)
            run("\n".join(START + [row]))

    def test_each_way(self):
        for way, rows in WAYS.items():
            for row in rows:
                with self.subTest(way=way, row=row[:60]):
                    self.check_rows(START + [row], 5)
                    self.check_rows(START + [row, "leads b", "row d"], 5)
                    self.check_rows(START[:1] + ["", "  "] + START[1:] + ["", row], 8)

    def test_each_first_row(self):
        for row in FIRST_ROWS:
            with self.subTest(row=row[:60]):
                self.check_rows([row], 0)
                self.check_rows([row] + START, 0)
                self.check_rows(["", "  ", "", row], 3)
                self.check_rows(["", row] + START, 1)

    def test_sheets_without_words(self):
        for text, number in (("", 1), (" ", 1), ("     ", 1), ("\n", 2), (" \n ", 2), ("\n\n", 3), ("\n" * 99, 100),
                             ("  \n\n   \n", 4)):
            self.check_bad(text, number)

    def test_the_first_of_several(self):
        bad = ["few a", "lead C 0 1 2 3", "short a", "row c /", "word a 1"]
        for at, row in enumerate(bad):
            self.check_rows(START + [row] + bad, 5)
            self.check_rows(START[:3] + [row] + START[3:] + bad, 3)
        self.check_rows(["width 4", "row c /", "width 4", "row c /"], 1)
        self.check_rows(["width 65", "row c /"], 0)

    def test_behind_many_answers(self):
        rows = START + ["leads a", "undo b", "halves a"] * 10
        self.assertEqual(len(run("\n".join(rows))), 32)
        self.check_rows(rows + ["leads c"], len(rows))
        self.check_rows(rows + [""] * 20 + ["leads c"], len(rows) + 20)

    def test_names_that_stand_only_behind(self):
        for ask in ("leads c", "word c 0101", "same a c", "same c a", "halves c", "deed c"):
            self.check_rows(START + [ask, "lead c 0 1 2 3"], 5)
            self.check_rows(START + [ask, "row c"], 5)
            run("\n".join(START + ["row c", ask]))
        for ask in ("short c", "undo c"):
            self.check_rows(START + [ask, "row c"], 5)
            run("\n".join(START + ["row c", ask]))

    def test_a_row_that_cannot_stand_gives_no_name(self):
        self.check_rows(START + ["row c left 5", "leads c"], 5)

    def test_names_unlike_of_both_together(self):
        for one in ("lead c 0 1 2 3", "row c"):
            for other in ("lead c 3 2 1 0", "row c left 1", one):
                self.check_rows(START + [one, other], 6)
                self.check_rows(START + [one, "leads c", "", other], 8)

    def test_few_by_width(self):
        for width in range(1, 65):
            text = sheet(width, "row a", "few a")
            if width > 3:
                self.check_bad(text, 2)
            else:
                self.assertEqual(run(text), ["0"])

    def test_widths(self):
        for width in range(1, 65):
            self.assertEqual(run(f"width {width}"), [])
        for width in (0, 65, 66, 70, 99, 100, 128, 640):
            self.check_bad(f"width {width}", 0)

    def test_lengths_by_width(self):
        for width in (1, 2, 3, 5, 8, 33, 64):
            entries = [f"{place}" for place in range(width)]
            for ahead, parts, joint in (("lead c ", entries, " "), ("word a ", ["1"] * width, ""),
                                        ("row c and ", ["0"] * width, ""), ("row c strew ", ["1"] * width, "")):
                self.assertIsNone(first_bad(sheet(width, "row a", ahead + joint.join(parts))))
                run(sheet(width, "row a", ahead + joint.join(parts)))
                self.check_bad(sheet(width, "row a", ahead + joint.join(parts[:-1])), 2)
                self.check_bad(sheet(width, "row a", ahead + joint.join(parts + ["0"])), 2)

    def test_bounds_by_width(self):
        for width in (1, 2, 3, 5, 8, 33, 64):
            zeros = "0" * width
            others = " 0" * (width - 1)
            for fine, bad in ((f"lead c {width - 1}{others}", f"lead c {width}{others}"),
                              (f"row c left {width}", f"row c left {width + 1}"),
                              (f"row c right {width}", f"row c right {width + 1}"),
                              (f"row c turn {width - 1}", f"row c turn {width}")):
                run(sheet(width, fine))
                self.check_bad(sheet(width, bad), 1)
            for bad in (f"swap {zeros} {width}", f"swap {zeros} 0", f"copy {zeros} {width}", f"copy {zeros} {-width}",
                        f"copy {zeros} 0"):
                self.check_bad(sheet(width, f"row c {bad}"), 1)
            for fine in (f"swap {zeros} {width - 1}", f"copy {zeros} {width - 1}", f"copy {zeros} {1 - width}"):
                if width > 1:
                    run(sheet(width, f"row c {fine}"))

    def test_signs_that_are_no_blanks_part_no_words(self):
        for sign in "\t\r\f\v":
            self.check_bad(f"width{sign}4", 0)
            self.check_rows(START + [f"leads{sign}a"], 5)
            self.check_rows(START + [f"leads a{sign}"], 5)
            self.check_rows(START + [sign], 5)

    def test_spoilt_sheets(self):
        draw = drawer(202)
        signs = "0123456789 -+/_abz\n"
        found = {}
        for width in (1, 2, 3, 5, 8):
            for turn in range(120):
                rows, asked = drawn_sheet(draw, width, 12)
                text = spoilt(draw, sheet(width, *rows), signs)
                number = first_bad(text)
                found[number] = True
                if number is None:
                    run(text)
                else:
                    self.check_bad(text, number)
        self.assertGreater(len(found), 12)


def spoilt(draw, text, signs):
    for turn in range(draw.randrange(1, 3)):
        at = draw.randrange(len(text))
        sort = draw.randrange(4)
        if sort == 0:
            text = text[:at] + draw.choice(signs) + text[at + 1:]
        if sort == 1:
            text = text[:at] + draw.choice(signs) + text[at:]
        if sort == 2:
            text = text[:at] + text[at + 1:]
        if sort == 3:
            rows = text.split("\n")
            one = draw.randrange(len(rows))
            other = draw.randrange(len(rows))
            rows[one], rows[other] = rows[other], rows[one]
            text = "\n".join(rows)
    return text


if __name__ == "__main__":
    unittest.main()
