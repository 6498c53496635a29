import unittest

from bitlead.deeds import done
from bitlead.gathering import gathered, strewn
from tests.drawing import WIDTHS, drawer, some_words
from tests.model import word_done


class Gathering(unittest.TestCase):
    def test_written_ones(self):
        self.assertEqual(gathered(0b10110010, 0b11110000), 0b1011)
        self.assertEqual(gathered(0b10110010, 0b10101010), 0b1101)
        self.assertEqual(strewn(0b1011, 0b11110000), 0b10110000)
        self.assertEqual(strewn(0b1101, 0b10101010), 0b10100010)
        self.assertEqual(strewn(0b11111101, 0b10101010), 0b10100010)
        self.assertEqual(gathered(2 ** 63, 2 ** 63), 1)
        self.assertEqual(strewn(1, 2 ** 63), 2 ** 63)

    def test_mask_of_no_place_and_of_all(self):
        draw = drawer(50)
        for width in WIDTHS:
            for word in some_words(draw, width):
                self.assertEqual(gathered(word, 0), 0)
                self.assertEqual(strewn(word, 0), 0)
                self.assertEqual(gathered(word, 2 ** width - 1), word)
                self.assertEqual(strewn(word, 2 ** width - 1), word)

    def test_mask_of_one_place(self):
        draw = drawer(51)
        for place in range(64):
            for word in some_words(draw, 64):
                self.assertEqual(gathered(word, 2 ** place), word // 2 ** place % 2)
                self.assertEqual(strewn(word, 2 ** place), word % 2 * 2 ** place)

    def test_every_one_of_small_widths(self):
        for word in range(32):
            for mask in range(32):
                self.check(5, word, mask)

    def test_drawn_ones(self):
        draw = drawer(52)
        for width in WIDTHS:
            for word in some_words(draw, width):
                for mask in some_words(draw, width):
                    self.check(width, word, mask)

    def check(self, width, word, mask):
        said = (width, word, mask)
        self.assertEqual(gathered(word, mask), word_done(width, ("gather", mask), word), said)
        self.assertEqual(strewn(word, mask), word_done(width, ("strew", mask), word), said)
        self.assertEqual(done(width, ("gather", mask), word), gathered(word, mask), said)
        self.assertEqual(done(width, ("strew", mask), word), strewn(word, mask), said)
        below = 2 ** bin(mask).count("1") - 1
        self.assertEqual(gathered(strewn(word, mask), mask), word & below, said)
        self.assertEqual(strewn(gathered(word, mask), mask), word & mask, said)


if __name__ == "__main__":
    unittest.main()
