import itertools
import unittest

from bitlead.errors import LeadError, Uneven, Unhalved
from bitlead.halfcheck import shows_halves
from bitlead.halving import even_row, halves
from bitlead.rows import is_row, row_done, row_leading
from tests.drawing import (HALVED, UNHALVED, all_leadings, bits_of, drawer, some_evens, some_unevens, some_words,
                           word_of)
from tests.model import is_paper, leading_of_row

STEPS = {1: [], 2: [1], 4: [2, 1, 2], 8: [4, 2, 1, 2, 4], 16: [8, 4, 2, 1, 2, 4, 8],
         32: [16, 8, 4, 2, 1, 2, 4, 8, 16], 64: [32, 16, 8, 4, 2, 1, 2, 4, 8, 16, 32]}


def asked_evens(draw, width):
    if width <= 4:
        return list(itertools.permutations(range(width)))
    return some_evens(draw, width)


class EvenRow(unittest.TestCase):
    def check_row(self, leading):
        width = len(leading)
        row = even_row(leading)
        self.assertIs(type(row), list)
        self.assertIs(is_row(width, row), True, (leading, row))
        self.assertEqual([deed[0] for deed in row], ["swap"] * len(STEPS[width]), leading)
        self.assertEqual([deed[2] for deed in row], STEPS[width], leading)
        self.assertEqual(row_leading(width, row), leading)
        return row

    def test_every_one_of_small_widths_and_drawn_ones(self):
        draw = drawer(70)
        for width in HALVED:
            for leading in asked_evens(draw, width):
                row = self.check_row(leading)
                for word in some_words(draw, width):
                    bits = bits_of(word, width)
                    self.assertEqual(row_done(width, row, word), word_of([bits[place] for place in leading]))

    def test_every_one_of_width_8_that_moves_few(self):
        for one, other in itertools.combinations(range(8), 2):
            for third in range(8):
                leading = list(range(8))
                leading[one], leading[other] = other, one
                leading[one], leading[third] = leading[third], leading[one]
                self.check_row(tuple(leading))

    def test_every_even_one_of_width_8_in_part(self):
        for number, leading in enumerate(itertools.permutations(range(8))):
            if number % 37 == 0:
                self.check_row(leading)

    def test_beside_a_reader_of_its_own(self):
        draw = drawer(71)
        for width in HALVED:
            for leading in asked_evens(draw, width):
                self.assertEqual(leading_of_row(width, even_row(leading)), leading)

    def test_width_1_and_2(self):
        self.assertEqual(even_row((0,)), [])
        self.assertEqual(even_row((0, 1)), [("swap", 0, 1)])
        self.assertEqual(even_row((1, 0)), [("swap", 1, 1)])

    def test_the_same_is_told_and_is_the_askers_own(self):
        for leading in ((0,), (1, 0), (3, 1, 0, 2)):
            told = even_row(leading)
            before = list(told)
            told.append(None)
            told[0] = None
            self.assertEqual(even_row(leading), before)


class Halves(unittest.TestCase):
    def test_every_one_is_a_paper(self):
        draw = drawer(72)
        for width in HALVED:
            for leading in asked_evens(draw, width):
                paper = halves(leading)
                self.assertIs(is_paper(leading, paper), True, (leading, paper))
                self.assertIs(shows_halves(leading, paper), True, (leading, paper))
                self.assertEqual(halves(leading), paper)

    def test_width_1_and_2(self):
        part = ((0,), ())
        self.assertEqual(halves((0,)), ())
        for leading in ((0, 1), (1, 0)):
            first, last, lower, upper = halves(leading)
            self.assertEqual((lower, upper), (part, part))
            self.assertEqual(first != last, leading == (1, 0))

    def test_tuples_alone_within(self):
        draw = drawer(73)
        for width in HALVED:
            for leading in some_evens(draw, width):
                self.check_made_of(halves(leading))

    def check_made_of(self, thing):
        self.assertIn(type(thing), (int, tuple))
        if type(thing) is tuple:
            for part in thing:
                self.check_made_of(part)


class Refused(unittest.TestCase):
    def check_refused(self, error, leading):
        for ask in (even_row, halves):
            with self.assertRaises(LeadError) as caught:
                ask(leading)
            self.assertIs(type(caught.exception), error, leading)

    def test_widths_that_are_none_by_halves(self):
        draw = drawer(74)
        for width in UNHALVED:
            for leading in some_evens(draw, width):
                self.check_refused(Unhalved, leading)

    def test_the_width_goes_ahead_of_unevenness(self):
        draw = drawer(75)
        for width in UNHALVED:
            for leading in some_unevens(draw, width):
                self.check_refused(Unhalved, leading)

    def test_beyond_the_widest(self):
        for width in (65, 96, 128, 256):
            self.check_refused(Unhalved, tuple(range(width)))
            self.check_refused(Unhalved, (0,) * width)

    def test_uneven(self):
        draw = drawer(76)
        for width in HALVED:
            for leading in some_unevens(draw, width):
                self.check_refused(Uneven, leading)
        for width in (1, 2, 4):
            for leading in all_leadings(width):
                if sorted(leading) != list(range(width)):
                    self.check_refused(Uneven, leading)

    def test_a_refusal_changes_nothing(self):
        before = even_row((2, 3, 1, 0)), halves((2, 3, 1, 0))
        self.check_refused(Uneven, (2, 3, 1, 1))
        self.check_refused(Unhalved, (2, 1, 0))
        self.assertEqual((even_row((2, 3, 1, 0)), halves((2, 3, 1, 0))), before)


if __name__ == "__main__":
    unittest.main()
