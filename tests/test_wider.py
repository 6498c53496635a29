import unittest

from bitlead.leadings import is_leading, led
from bitlead.rows import all_deeds, is_row, row_done
from bitlead.wider import beside, lanes, lifted, wider_row
from tests.drawing import (bits_of, drawer, drawn_deed, drawn_leading, drawn_row, drawn_word, some_deeds, some_words,
                           word_of)
from tests.model import NAMES, PAIR_NAMES, led_by_places, word_done


def some_leadings(draw, width):
    leadings = [(-1,) * width, (-2,) * width, (0,) * width, (width - 1,) * width, tuple(range(width))[::-1]]
    return leadings + [drawn_leading(draw, width) for turn in range(3)]


def some_wides(draw, width):
    return sorted({width, min(64, width + 1), (width + 64) // 2, 64, draw.randrange(width, 65)})


def names_of(width):
    return [name for name in NAMES if width > 1 or name not in PAIR_NAMES]


class Lifted(unittest.TestCase):
    def check(self, leading, at, wide, word):
        width = len(leading)
        told = lifted(leading, at, wide)
        said = (leading, at, wide)
        self.assertIs(type(told), tuple)
        self.assertIs(is_leading(told), True, said)
        self.assertEqual(len(told), wide, said)
        for place in range(wide):
            own = place - at
            if own not in range(width):
                self.assertEqual(told[place], place, said)
            elif leading[own] < 0:
                self.assertEqual(told[place], leading[own], said)
            else:
                self.assertEqual(told[place], leading[own] + at, said)
        bits = bits_of(word, wide)
        bits[at:at + width] = bits_of(led_by_places(leading, word_of(bits[at:at + width])), width)
        self.assertEqual(led(told, word), word_of(bits), said)

    def test_each_width_at_low_middle_and_high_places(self):
        draw = drawer(170)
        for width in range(1, 65):
            leadings = some_leadings(draw, width)
            for wide in some_wides(draw, width):
                for at in sorted({0, (wide - width) // 2, wide - width}):
                    self.check(draw.choice(leadings), at, wide, drawn_word(draw, wide))
                    self.check(drawn_leading(draw, width), at, wide, drawn_word(draw, wide))

    def test_all_sorts_of_leadings_and_words(self):
        draw = drawer(171)
        for width, at, wide in ((1, 0, 1), (1, 63, 64), (3, 2, 8), (8, 0, 9), (33, 31, 64), (64, 0, 64)):
            for leading in some_leadings(draw, width):
                for word in some_words(draw, wide):
                    self.check(leading, at, wide, word)

    def test_written_ones(self):
        self.assertEqual(lifted((1, 0), 1, 4), (0, 2, 1, 3))
        self.assertEqual(lifted((-2, -1), 0, 3), (-2, -1, 2))
        self.assertEqual(lifted((0, 0), 2, 4), (0, 1, 2, 2))
        self.assertEqual(lifted((1, 0), 0, 2), (1, 0))


class Beside(unittest.TestCase):
    def check(self, leadings, words):
        before = list(leadings)
        told = beside(leadings)
        whole = sum(len(leading) for leading in leadings)
        self.assertIs(type(told), tuple)
        self.assertIs(is_leading(told), True, leadings)
        self.assertEqual(len(told), whole)
        start = 0
        for leading in leadings:
            for place, entry in enumerate(leading):
                self.assertEqual(told[start + place], entry if entry < 0 else entry + start, (leadings, told))
            start += len(leading)
        for word in words:
            bits = bits_of(word, whole)
            led_bits = []
            for leading in leadings:
                part = bits[len(led_bits):len(led_bits) + len(leading)]
                led_bits += bits_of(led_by_places(leading, word_of(part)), len(leading))
            self.assertEqual(led(told, word), word_of(led_bits), (leadings, word))
        self.assertEqual(list(leadings), before)
        self.assertEqual(beside(tuple(leadings)), told)

    def test_one_leading(self):
        draw = drawer(172)
        for width in range(1, 65):
            for leading in some_leadings(draw, width):
                self.assertEqual(beside([leading]), leading)
                self.assertEqual(beside((leading,)), leading)

    def test_leadings_of_unlike_widths(self):
        draw = drawer(173)
        for many in range(1, 9):
            for turn in range(12):
                widths = [draw.randrange(1, 64 // many + 1) for time in range(many)]
                leadings = [draw.choice(some_leadings(draw, width)) for width in widths]
                self.check(leadings, [drawn_word(draw, sum(widths)) for time in range(4)])
        for widths in ((63, 1), (1, 63), (32, 32), (1,) * 64, (1, 2, 3, 4, 5, 6, 7, 36)):
            leadings = [drawn_leading(draw, width) for width in widths]
            self.check(leadings, some_words(draw, 64))

    def test_written_ones(self):
        self.assertEqual(beside([(1, 0), (-1,), (2, 0, -2)]), (1, 0, -1, 5, 3, -2))
        self.assertEqual(beside([(-1,), (1, 0)]), (-1, 2, 1))

    def test_the_list_handed_in_stays(self):
        leadings = [(1, 0), (0,)]
        told = beside(leadings)
        leadings.clear()
        self.assertEqual(told, (1, 0, 2))


class Lanes(unittest.TestCase):
    def test_as_many_as_fit(self):
        draw = drawer(174)
        for width in range(1, 65):
            for many in sorted({1, min(2, 64 // width), 64 // width}):
                leading = draw.choice(some_leadings(draw, width))
                told = lanes(leading, many)
                self.assertIs(type(told), tuple)
                self.assertIs(is_leading(told), True)
                asked = [entry if entry < 0 else entry + width * lane for lane in range(many) for entry in leading]
                self.assertEqual(told, tuple(asked), (leading, many))
                self.assertEqual(told, beside([leading] * many))

    def test_words(self):
        draw = drawer(175)
        for width, many in ((1, 64), (2, 3), (8, 8), (5, 12), (32, 2), (64, 1)):
            leading = drawn_leading(draw, width)
            words = [drawn_word(draw, width) for lane in range(many)]
            whole = word_of([bit for word in words for bit in bits_of(word, width)])
            asked = word_of([bit for word in words for bit in bits_of(led_by_places(leading, word), width)])
            self.assertEqual(led(lanes(leading, many), whole), asked)

    def test_written_ones(self):
        self.assertEqual(lanes((1, 0), 3), (1, 0, 3, 2, 5, 4))
        self.assertEqual(lanes((-2,), 2), (-2, -2))
        self.assertEqual(lanes((1, -1), 1), (1, -1))


class WiderRow(unittest.TestCase):
    def check(self, width, row, wide, words):
        before = list(row)
        told = wider_row(width, row, wide)
        said = (width, row, wide, told)
        self.assertIs(type(told), list)
        self.assertIs(is_row(wide, told), True, said)
        self.assertLessEqual(len(told), 3 * len(row), said)
        for word in words:
            asked = word
            for deed in row:
                asked = word_done(width, deed, asked)
            self.assertEqual(row_done(wide, told, word), asked, (said, word))
        self.assertEqual(list(row), before)
        self.assertIsNot(told, row)
        self.assertEqual(wider_row(width, tuple(row), wide), told)

    def test_no_deeds(self):
        for width in range(1, 33):
            for wide in (2 * width, 64):
                self.assertEqual(wider_row(width, [], wide), [])
                self.assertEqual(wider_row(width, (), wide), [])

    def test_every_deed_and_word_of_small_widths(self):
        for width in (1, 2, 3):
            for wide in (2 * width, 2 * width + 1, 64):
                for deed in all_deeds(width):
                    self.check(width, [deed], wide, range(2 ** width))

    def test_edges_of_each_word(self):
        draw = drawer(176)
        for width in (1, 2, 5, 8):
            words = some_words(draw, width)[:8]
            for deed in some_deeds(draw, width):
                self.check(width, [deed], 2 * width, words)
        for width in (16, 32):
            words = [2 ** width - 1, 0] + some_words(draw, width)[-3:]
            for deed in draw.sample(some_deeds(draw, width), 60):
                self.check(width, [deed], 2 * width, words)

    def test_numbers_at_their_bounds(self):
        for width in range(1, 33):
            every = 2 ** width - 1
            deeds = [(name, mask) for name in ("and", "or", "gather", "strew") for mask in (0, every)]
            deeds += [("left", 0), ("left", width), ("right", 0), ("right", width), ("turn", 0), ("turn", width - 1)]
            if width > 1:
                deeds += [("swap", 0, 1), ("swap", 1, width - 1), ("copy", 0, width - 1), ("copy", 1, width - 1),
                          ("copy", 0, 1 - width), ("copy", 2 ** (width - 1), 1 - width), ("copy", every // 2, 1)]
            for deed in deeds:
                for wide in (2 * width, 64):
                    self.check(width, [deed], wide, (0, every, 1, 2 ** (width - 1)))

    def test_drawn_rows_of_every_width(self):
        draw = drawer(177)
        for width in range(1, 33):
            for many in (2, 5, 20):
                wide = draw.choice((2 * width, min(64, 2 * width + 1), 64, draw.randrange(2 * width, 65)))
                self.check(width, drawn_row(draw, width, many), wide, [2 ** width - 1, drawn_word(draw, width)])

    def test_drawn_rows_that_keep_bits(self):
        # Rows of all words soon come to words that are the same whatever was handed in; these don't.
        draw = drawer(178)
        for width in (2, 3, 8, 13, 32):
            for turn in range(6):
                row = [drawn_deed(draw, width, draw.choice(("turn", "swap", "turn", "copy"))) for time in range(20)]
                self.check(width, row, draw.randrange(2 * width, 65), [drawn_word(draw, width) for time in range(3)])

    def test_rows_with_each_word_ahead_of_each_other(self):
        draw = drawer(179)
        for width, wide in ((1, 2), (4, 8), (7, 15)):
            for one in names_of(width):
                for other in names_of(width):
                    row = [drawn_deed(draw, width, one), drawn_deed(draw, width, other)]
                    self.check(width, row, wide, some_words(draw, width))

    def test_the_told_row_is_the_askers_own(self):
        row = [("and", 3), ("turn", 1)]
        told = wider_row(4, row, 8)
        first = list(told)
        told.clear()
        self.assertEqual(row, [("and", 3), ("turn", 1)])
        self.assertEqual(wider_row(4, row, 8), first)


if __name__ == "__main__":
    unittest.main()
