import unittest

from bitlead.leadings import is_even, is_leading, led, staying, then, turned_back
from bitlead.tables import mirrored, square, square_mirrored, square_turned, unwoven, woven
from tests.drawing import bits_of, drawer, drawn_word

WIDTHS = (1, 2, 3, 5, 8, 33, 64)
EVEN_WIDTHS = tuple(range(2, 65, 2))
SIDES = (1, 2, 3, 4, 5, 6, 7, 8)


def lines_of(word, n):
    bits = bits_of(word, n * n)
    return [bits[n * line:n * line + n] for line in range(n)]


class Tables(unittest.TestCase):
    def check_leading(self, leading, width):
        self.assertIs(type(leading), tuple)
        self.assertEqual(len(leading), width)
        self.assertIs(is_leading(leading), True, leading)
        self.assertIs(is_even(leading), True, leading)

    def test_every_entry_of_mirrored(self):
        for width in sorted(WIDTHS + EVEN_WIDTHS):
            told = mirrored(width)
            self.check_leading(told, width)
            for place in range(width):
                self.assertEqual(told[place], width - 1 - place)
            self.assertEqual(then(told, told), staying(width))

    def test_every_entry_of_woven(self):
        for width in EVEN_WIDTHS:
            told = woven(width)
            self.check_leading(told, width)
            half = width // 2
            for place in range(half):
                self.assertEqual(told[2 * place], place)
                self.assertEqual(told[2 * place + 1], place + half)

    def test_every_entry_of_unwoven(self):
        for width in EVEN_WIDTHS:
            told = unwoven(width)
            self.check_leading(told, width)
            half = width // 2
            for place in range(half):
                self.assertEqual(told[place], 2 * place)
                self.assertEqual(told[place + half], 2 * place + 1)

    def test_unwoven_behind_woven(self):
        for width in EVEN_WIDTHS:
            self.assertEqual(then(woven(width), unwoven(width)), staying(width))
            self.assertEqual(then(unwoven(width), woven(width)), staying(width))
            self.assertEqual(unwoven(width), turned_back(woven(width)))

    def test_written_ones(self):
        self.assertEqual(mirrored(1), (0,))
        self.assertEqual(mirrored(5), (4, 3, 2, 1, 0))
        self.assertEqual(woven(2), (0, 1))
        self.assertEqual(woven(8), (0, 4, 1, 5, 2, 6, 3, 7))
        self.assertEqual(unwoven(8), (0, 2, 4, 6, 1, 3, 5, 7))
        self.assertEqual(woven(6), (0, 3, 1, 4, 2, 5))
        self.assertEqual(unwoven(6), (0, 2, 4, 1, 3, 5))
        self.assertEqual(square(1), (0,))
        self.assertEqual(square(2), (0, 2, 1, 3))
        self.assertEqual(square(3), (0, 3, 6, 1, 4, 7, 2, 5, 8))
        self.assertEqual(square_turned(2), (2, 0, 3, 1))
        self.assertEqual(square_turned(3), (6, 3, 0, 7, 4, 1, 8, 5, 2))
        self.assertEqual(square_mirrored(2), (1, 0, 3, 2))
        self.assertEqual(square_mirrored(3), (2, 1, 0, 5, 4, 3, 8, 7, 6))

    def test_every_entry_of_squares(self):
        for n in SIDES:
            for leading in (square(n), square_turned(n), square_mirrored(n)):
                self.check_leading(leading, n * n)
            for line in range(n):
                for column in range(n):
                    place = n * line + column
                    self.assertEqual(square(n)[place], n * column + line)
                    self.assertEqual(square_turned(n)[place], n * (n - 1 - column) + line)
                    self.assertEqual(square_mirrored(n)[place], n * line + n - 1 - column)

    def test_squares_of_words(self):
        draw = drawer(150)
        for n in SIDES:
            for turn in range(5):
                word = drawn_word(draw, n * n)
                lines = lines_of(word, n)
                self.assertEqual(lines_of(led(square(n), word), n), [list(column) for column in zip(*lines)])
                self.assertEqual(lines_of(led(square_turned(n), word), n),
                                 [list(column) for column in zip(*lines[::-1])])
                self.assertEqual(lines_of(led(square_mirrored(n), word), n), [line[::-1] for line in lines])

    def test_turns_of_squares(self):
        for n in SIDES:
            twice = then(square_turned(n), square_turned(n))
            self.assertEqual(twice, mirrored(n * n))
            self.assertEqual(then(twice, twice), staying(n * n))
            self.assertEqual(then(square(n), square(n)), staying(n * n))
            self.assertEqual(then(square_mirrored(n), square_mirrored(n)), staying(n * n))
            self.assertEqual(then(square(n), square_mirrored(n)), square_turned(n))

    def test_the_same_is_told(self):
        for width in (2, 8, 64):
            self.assertEqual((mirrored(width), woven(width), unwoven(width)),
                             (mirrored(width), woven(width), unwoven(width)))


if __name__ == "__main__":
    unittest.main()
