import unittest

from bitlead.deeds import deed_leading
from bitlead.gathering import gathered, strewn
from bitlead.gatherrows import gather_row, strew_row
from bitlead.leadings import led
from bitlead.rows import is_row, row_done, row_leading
from tests.drawing import bits_of, drawer, drawn_word, some_words
from tests.model import leading_of_row, word_done

ASKED_WIDTHS = (1, 2, 3, 5, 8, 33, 63, 64)
STEPS = {1: [], 2: [1], 3: [1, 2], 5: [1, 2, 4], 8: [1, 2, 4], 33: [1, 2, 4, 8, 16, 32], 63: [1, 2, 4, 8, 16, 32],
         64: [1, 2, 4, 8, 16, 32]}


def figures(number):
    many = 0
    while number > 0:
        many += 1
        number = number // 2
    return many


def some_masks(draw, width):
    return some_words(draw, width) + [2 ** place for place in range(width)]


class GatherRows(unittest.TestCase):
    def check_form(self, width, row, mask, bys):
        said = (width, mask, row)
        self.assertIs(type(row), list, said)
        self.assertIs(is_row(width, row), True, said)
        self.assertEqual([deed[0] for deed in row], ["copy"] * len(bys) + ["and"], said)
        self.assertEqual([deed[2] for deed in row[:-1]], bys, said)

    def check_both(self, width, mask, words):
        steps = [2 ** step for step in range(figures(width - 1))]
        down = gather_row(width, mask)
        up = strew_row(width, mask)
        self.check_form(width, down, mask, [-step for step in steps])
        self.check_form(width, up, mask, steps[::-1])
        self.assertEqual(row_leading(width, down), deed_leading(width, ("gather", mask)), (width, mask))
        self.assertEqual(row_leading(width, up), deed_leading(width, ("strew", mask)), (width, mask))
        for word in words:
            said = (width, mask, word)
            self.assertEqual(row_done(width, down, word), gathered(word, mask), said)
            self.assertEqual(row_done(width, up, word), strewn(word, mask), said)
            self.assertEqual(led(row_leading(width, down), word), word_done(width, ("gather", mask), word), said)
            self.assertEqual(led(row_leading(width, up), word), word_done(width, ("strew", mask), word), said)

    def test_the_steps_of_written_widths(self):
        draw = drawer(60)
        for width in ASKED_WIDTHS:
            for mask in some_masks(draw, width):
                self.check_form(width, gather_row(width, mask), mask, [-step for step in STEPS[width]])
                self.check_form(width, strew_row(width, mask), mask, STEPS[width][::-1])

    def test_every_mask_and_word_of_small_widths(self):
        for width in (1, 2, 3, 4, 5):
            for mask in range(2 ** width):
                self.check_both(width, mask, range(2 ** width))

    def test_every_mask_of_widths_8_and_9(self):
        draw = drawer(61)
        for width in (8, 9):
            for mask in range(2 ** width):
                self.check_both(width, mask, [2 ** width - 1, drawn_word(draw, width)])

    def test_asked_widths(self):
        draw = drawer(62)
        for width in ASKED_WIDTHS:
            for mask in some_masks(draw, width):
                self.check_both(width, mask, some_words(draw, width))

    def test_all_widths(self):
        draw = drawer(63)
        for width in range(1, 65):
            for mask in some_words(draw, width):
                self.check_both(width, mask, [0, 2 ** width - 1, drawn_word(draw, width)])

    def test_beside_a_reader_of_its_own(self):
        draw = drawer(64)
        for width in ASKED_WIDTHS:
            for mask in some_words(draw, width):
                places = [place for place, bit in enumerate(bits_of(mask, width)) if bit == 1]
                down = places + [-1] * (width - len(places))
                up = [places.index(place) if place in places else -1 for place in range(width)]
                self.assertEqual(leading_of_row(width, gather_row(width, mask)), tuple(down))
                self.assertEqual(leading_of_row(width, strew_row(width, mask)), tuple(up))

    def test_width_1_has_no_copies(self):
        self.assertEqual(gather_row(1, 0), [("and", 0)])
        self.assertEqual(gather_row(1, 1), [("and", 1)])
        self.assertEqual(strew_row(1, 0), [("and", 0)])
        self.assertEqual(strew_row(1, 1), [("and", 1)])

    def test_they_undo_one_another_under_the_mask(self):
        draw = drawer(65)
        for width in ASKED_WIDTHS:
            for mask in some_masks(draw, width):
                down, up = gather_row(width, mask), strew_row(width, mask)
                below = 2 ** bin(mask).count("1") - 1
                for word in some_words(draw, width):
                    self.assertEqual(row_done(width, up + down, word), word & below)
                    self.assertEqual(row_done(width, down + up, word), word & mask)

    def test_what_is_told_is_the_askers_own(self):
        for make in (gather_row, strew_row):
            told = make(8, 0b10110010)
            before = list(told)
            told.reverse()
            told.pop()
            told[0] = None
            self.assertEqual(make(8, 0b10110010), before)
            self.assertIsNot(make(8, 0b10110010), make(8, 0b10110010))


if __name__ == "__main__":
    unittest.main()
