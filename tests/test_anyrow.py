import unittest

from bitlead.anyrow import any_row, deeds_for
from bitlead.errors import LeadError, Unhalved
from bitlead.leadings import led
from bitlead.rows import is_row, row_done, row_leading
from tests.drawing import (HALVED, UNHALVED, all_leadings, drawer, drawn_leading, drawn_word, some_evens,
                           some_unevens, some_words)
from tests.model import leading_of_row

NUMBERS = {1: 2, 2: 5, 4: 10, 8: 15, 16: 20, 32: 25, 64: 30}
SWAPS = {1: [], 2: [1], 4: [2, 1, 2], 8: [4, 2, 1, 2, 4], 16: [8, 4, 2, 1, 2, 4, 8],
         32: [16, 8, 4, 2, 1, 2, 4, 8, 16], 64: [32, 16, 8, 4, 2, 1, 2, 4, 8, 16, 32]}
COPIES = {1: [], 2: [1], 4: [1, 2], 8: [1, 2, 4], 16: [1, 2, 4, 8], 32: [1, 2, 4, 8, 16], 64: [1, 2, 4, 8, 16, 32]}


def with_few_sources(draw, width):
    # Each of few bits often, some 0 and some 1 between them.
    sources = [draw.randrange(width) for turn in range(draw.randrange(1, 4))] + [-1, -2]
    return tuple(draw.choice(sources) for place in range(width))


def asked_leadings(draw, width):
    if width <= 4:
        return all_leadings(width)
    asked = some_evens(draw, width) + some_unevens(draw, width)
    asked += [(place,) * width for place in (0, 1, width // 2, width - 1)]
    asked += [(0,) + (width - 1,) * (width - 1), (width - 1,) * (width - 1) + (0,)]
    asked += [tuple(place // 2 for place in range(width)), tuple(place // 2 * 2 for place in range(width))]
    asked += [with_few_sources(draw, width) for turn in range(10)]
    return asked + [drawn_leading(draw, width) for turn in range(10)]


class AnyRow(unittest.TestCase):
    def check_form(self, leading, row):
        width = len(leading)
        self.assertIs(type(row), list)
        self.assertIs(is_row(width, row), True, (leading, row))
        swaps = [("swap", by) for by in SWAPS[width]]
        copies = [("copy", by) for by in COPIES[width]]
        asked = swaps + copies + swaps + [("and", None), ("or", None)]
        told = [(deed[0], deed[2] if len(deed) == 3 else None) for deed in row]
        self.assertEqual(told, asked, (leading, row))

    def test_all_asked_leadings(self):
        draw = drawer(90)
        for width in HALVED:
            for leading in asked_leadings(draw, width):
                row = any_row(leading)
                self.check_form(leading, row)
                self.assertEqual(len(row), NUMBERS[width])
                self.assertEqual(row_leading(width, row), leading)
                for word in (0, 2 ** width - 1, drawn_word(draw, width)):
                    self.assertEqual(row_done(width, row, word), led(leading, word), (leading, word))

    def test_beside_a_reader_of_its_own(self):
        draw = drawer(91)
        for width in HALVED:
            for leading in draw.sample(asked_leadings(draw, width), 3):
                self.assertEqual(leading_of_row(width, any_row(leading)), leading)

    def test_some_words_of_wide_ones(self):
        draw = drawer(92)
        for width in (32, 64):
            leading = drawn_leading(draw, width)
            row = any_row(leading)
            for word in some_words(draw, width):
                self.assertEqual(row_done(width, row, word), led(leading, word))

    def test_width_1(self):
        for leading in ((0,), (-1,), (-2,)):
            self.assertEqual([deed[0] for deed in any_row(leading)], ["and", "or"])
        self.assertEqual(any_row((0,)), [("and", 1), ("or", 0)])

    def test_the_same_is_told_and_is_the_askers_own(self):
        for leading in ((-2,), (0, 0), (3, -1, 3, -2)):
            told = any_row(leading)
            before = list(told)
            told.reverse()
            told[0] = None
            self.assertEqual(any_row(leading), before)
            self.assertIsNot(any_row(leading), any_row(leading))

    def test_refused_widths(self):
        draw = drawer(93)
        for width in UNHALVED + (65, 96, 128):
            for leading in some_evens(draw, width)[:2] + some_unevens(draw, width)[:5]:
                with self.assertRaises(LeadError) as caught:
                    any_row(leading)
                self.assertIs(type(caught.exception), Unhalved)


class DeedsFor(unittest.TestCase):
    def test_widths_by_halves(self):
        for width in HALVED:
            self.assertEqual(deeds_for(width), NUMBERS[width])
            self.assertIs(type(deeds_for(width)), int)

    def test_refused_widths(self):
        for width in UNHALVED + (0, 65, 96, 128):
            with self.assertRaises(LeadError) as caught:
                deeds_for(width)
            self.assertIs(type(caught.exception), Unhalved)


if __name__ == "__main__":
    unittest.main()
