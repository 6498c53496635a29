import itertools
import unittest

from bitlead.deeds import deed_leading, is_deed
from bitlead.leadings import is_leading, led, staying
from bitlead.rows import all_deeds, is_row, row_done, row_leading
from tests.drawing import ODD_THINGS, WIDTHS, drawer, drawn_row, some_words
from tests.model import all_of_small_numbers, may_stand, word_done


class IsRow(unittest.TestCase):
    def test_no_deeds(self):
        for width in (1, 64):
            self.assertIs(is_row(width, []), True)
            self.assertIs(is_row(width, ()), True)

    def test_one_and_many(self):
        draw = drawer(30)
        for width in WIDTHS:
            for many in (1, 2, 7, 200):
                row = drawn_row(draw, width, many)
                self.assertIs(is_row(width, row), True)
                self.assertIs(is_row(width, tuple(row)), True)

    def test_one_deed_spoilt(self):
        draw = drawer(31)
        for width in WIDTHS:
            row = drawn_row(draw, width, 5)
            spoilt = (("left", width + 1), ("turn", width), ("and", 2 ** width), ("and", -1), ("swap", 0, 0),
                      ["and", 1], ("and", True), ("and",), ("none", 0), (), [], None, 0, True, "and")
            for at in range(5):
                for part in spoilt:
                    thing = row[:at] + [part] + row[at + 1:]
                    self.assertIs(is_row(width, thing), False, (width, at, part))
                    self.assertIs(is_row(width, tuple(thing)), False, (width, at, part))

    def test_deeds_of_another_width(self):
        self.assertIs(is_row(4, [("left", 4)]), True)
        self.assertIs(is_row(3, [("left", 4)]), False)
        self.assertIs(is_row(64, [("and", 2 ** 64 - 1)]), True)
        self.assertIs(is_row(63, [("and", 2 ** 64 - 1)]), False)

    def test_a_deed_is_no_row(self):
        self.assertIs(is_row(8, ("and", 1)), False)
        self.assertIs(is_row(8, ("swap", 1, 1)), False)
        self.assertIs(is_row(8, [[("and", 1)]]), False)

    def test_things_of_all_kinds(self):
        for width in (1, 64):
            for thing in ODD_THINGS:
                self.assertIs(is_row(width, thing), False, thing)


class RowDoneAndLeading(unittest.TestCase):
    def test_no_deeds(self):
        draw = drawer(32)
        for width in WIDTHS:
            for row in ([], ()):
                self.assertEqual(row_leading(width, row), staying(width))
                for word in some_words(draw, width):
                    self.assertEqual(row_done(width, row, word), word)

    def test_written_ones(self):
        self.assertEqual(row_done(8, [("left", 2), ("or", 1)], 0b11000011), 0b00001101)
        self.assertEqual(row_done(8, [("or", 1), ("left", 2)], 0b11000010), 0b00001100)
        self.assertEqual(row_leading(4, [("left", 1), ("or", 1)]), (-2, 0, 1, 2))
        self.assertEqual(row_leading(4, [("or", 1), ("left", 1)]), (-1, -2, 1, 2))
        self.assertEqual(row_leading(4, [("turn", 1), ("copy", 1, 2)]), (3, 0, 3, 2))

    def test_one_deed(self):
        draw = drawer(33)
        for width in WIDTHS:
            for deed in drawn_row(draw, width, 10):
                self.assertEqual(row_leading(width, [deed]), deed_leading(width, deed))
                for word in some_words(draw, width):
                    self.assertEqual(row_done(width, [deed], word), word_done(width, deed, word))

    def test_every_two_deeds_of_width_2(self):
        for row in itertools.product(all_deeds(2), repeat=2):
            self.check_row(2, list(row), range(4))

    def test_drawn_ones(self):
        draw = drawer(34)
        for width in WIDTHS:
            for many in (2, 3, 4, 5, 10, 200):
                self.check_row(width, drawn_row(draw, width, many), some_words(draw, width))

    def test_even_rows_keep_what_comes_in(self):
        draw = drawer(35)
        for width in WIDTHS[1:]:
            row = [deed for deed in drawn_row(draw, width, 60) if deed[0] in ("turn", "swap")]
            self.assertNotEqual(row, [])
            self.check_row(width, row, some_words(draw, width))

    def check_row(self, width, row, words):
        leading = row_leading(width, row)
        self.assertIs(is_leading(leading), True)
        self.assertEqual(len(leading), width)
        self.assertEqual(row_leading(width, tuple(row)), leading)
        for word in words:
            asked = word
            for deed in row:
                asked = word_done(width, deed, asked)
            self.assertEqual(row_done(width, row, word), asked, (width, row, word))
            self.assertEqual(row_done(width, tuple(row), word), asked, (width, row, word))
            self.assertEqual(led(leading, word), asked, (width, row, word))

    def test_the_handed_row_stays(self):
        draw = drawer(36)
        row = drawn_row(draw, 8, 10)
        before = list(row)
        row_done(8, row, 77)
        row_leading(8, row)
        is_row(8, row)
        self.assertEqual(row, before)

    def test_a_row_may_be_changed_behind(self):
        row = [("left", 1)]
        leading = row_leading(4, row)
        row.append(("or", 1))
        self.assertEqual(leading, (-1, 0, 1, 2))
        self.assertEqual(row_leading(4, row), (-2, 0, 1, 2))


class AllDeeds(unittest.TestCase):
    def test_width_1(self):
        self.assertEqual(all_deeds(1), [
            ("and", 0), ("and", 1), ("or", 0), ("or", 1), ("left", 0), ("left", 1), ("right", 0), ("right", 1),
            ("turn", 0), ("gather", 0), ("gather", 1), ("strew", 0), ("strew", 1)])

    def test_width_2(self):
        self.assertEqual(all_deeds(2), [
            ("and", 0), ("and", 1), ("and", 2), ("and", 3), ("or", 0), ("or", 1), ("or", 2), ("or", 3),
            ("left", 0), ("left", 1), ("left", 2), ("right", 0), ("right", 1), ("right", 2), ("turn", 0), ("turn", 1),
            ("swap", 0, 1), ("swap", 1, 1),
            ("gather", 0), ("gather", 1), ("gather", 2), ("gather", 3),
            ("strew", 0), ("strew", 1), ("strew", 2), ("strew", 3),
            ("copy", 0, -1), ("copy", 0, 1), ("copy", 1, 1), ("copy", 2, -1)])

    def test_all_of_them_each_once_in_order(self):
        for width in (1, 2, 3, 4):
            told = all_deeds(width)
            self.assertIs(type(told), list)
            self.assertEqual(told, [deed for deed in all_of_small_numbers(width) if may_stand(width, deed)])
            self.assertEqual(len(told), len(set(told)))
            self.assertIs(is_row(width, told), True)
            for deed in told:
                self.assertIs(is_deed(width, deed), True)

    def test_the_told_list_is_the_askers_own(self):
        for width in (1, 2, 3, 4):
            told = all_deeds(width)
            before = list(told)
            told.reverse()
            told.pop()
            told[0] = None
            self.assertEqual(all_deeds(width), before)
            self.assertIsNot(all_deeds(width), all_deeds(width))


if __name__ == "__main__":
    unittest.main()
