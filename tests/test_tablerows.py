import unittest

from bitlead.errors import LeadError, Unhalved
from bitlead.rows import is_row, row_done, row_leading
from bitlead.tablerows import mirror_row, square_row, square_turn_row, weave_row
from bitlead.tables import mirrored, square, square_turned, woven
from tests.drawing import HALVED, UNHALVED, drawer, some_words
from tests.model import led_by_places, leading_of_row

MIRROR_STEPS = {1: [], 2: [1], 4: [2, 1], 8: [4, 2, 1], 16: [8, 4, 2, 1], 32: [16, 8, 4, 2, 1],
                64: [32, 16, 8, 4, 2, 1]}
WEAVE_STEPS = {2: [], 4: [1], 8: [2, 1], 16: [4, 2, 1], 32: [8, 4, 2, 1], 64: [16, 8, 4, 2, 1]}
SQUARE_STEPS = {1: [], 2: [1], 4: [6, 3], 8: [28, 14, 7]}
TURN_STEPS = {1: [[]], 2: [[1], [2]], 4: [[2, 1], [8, 4]], 8: [[4, 2, 1], [32, 16, 8]]}
BEYOND = (0, -1, -2, -4, 65, 66, 96, 100, 128, 256, 1024)


def steps_of(row):
    return [deed[2] for deed in row]


class TableRows(unittest.TestCase):
    def check_row(self, row, leading):
        width = len(leading)
        self.assertIs(type(row), list)
        self.assertIs(is_row(width, row), True, row)
        self.assertEqual([deed[0] for deed in row], ["swap"] * len(row))
        self.assertEqual(row_leading(width, row), leading)
        if width <= 16:
            self.assertEqual(leading_of_row(width, row), leading)
        for word in some_words(drawer(160), width):
            self.assertEqual(row_done(width, row, word), led_by_places(leading, word))

    def check_refused(self, function, handed):
        with self.assertRaises(Unhalved) as caught:
            function(handed)
        self.assertIsInstance(caught.exception, LeadError)

    def test_mirror_row(self):
        for width in HALVED:
            row = mirror_row(width)
            self.check_row(row, mirrored(width))
            self.assertEqual(steps_of(row), MIRROR_STEPS[width])

    def test_mirror_row_refused(self):
        for width in UNHALVED + BEYOND:
            self.check_refused(mirror_row, width)

    def test_weave_row(self):
        for width in HALVED[1:]:
            row = weave_row(width)
            self.check_row(row, woven(width))
            self.assertEqual(steps_of(row), WEAVE_STEPS[width])

    def test_weave_row_refused(self):
        for width in (1,) + UNHALVED + BEYOND:
            self.check_refused(weave_row, width)

    def test_square_row(self):
        for n in (1, 2, 4, 8):
            row = square_row(n)
            self.check_row(row, square(n))
            self.assertEqual(steps_of(row), SQUARE_STEPS[n])

    def test_square_turn_row(self):
        for n in (1, 2, 4, 8):
            row = square_turn_row(n)
            self.check_row(row, square_turned(n))
            asked = [SQUARE_STEPS[n] + steps for steps in TURN_STEPS[n]]
            asked += [steps + SQUARE_STEPS[n] for steps in TURN_STEPS[n]]
            self.assertIn(steps_of(row), asked)

    def test_squares_refused(self):
        for n in UNHALVED + BEYOND + (16, 32, 64):
            self.check_refused(square_row, n)
            self.check_refused(square_turn_row, n)

    def test_the_told_rows_are_the_askers_own(self):
        for function, handed in ((mirror_row, 8), (weave_row, 8), (square_row, 4), (square_turn_row, 4)):
            told = function(handed)
            first = list(told)
            told.append(None)
            told[0] = None
            self.assertEqual(function(handed), first)


if __name__ == "__main__":
    unittest.main()
