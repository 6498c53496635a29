import itertools
import unittest

from bitlead.errors import LeadError, Uneven
from bitlead.leadings import is_even, is_leading, kept_by, led, staying, then, turned_back
from tests.drawing import (ODD_THINGS, WIDTHS, all_leadings, drawer, drawn_even, drawn_leading, drawn_word,
                           some_words, word_of)
from tests.model import led_by_places


def comes_to(leading, place):
    return [to for to, entry in enumerate(leading) if entry == place]


class IsLeading(unittest.TestCase):
    def test_of_small_widths(self):
        for width in (1, 2, 3):
            for entries in itertools.product(range(-4, width + 3), repeat=width):
                asked = all(entry in range(-2, width) for entry in entries)
                self.assertIs(is_leading(entries), asked, entries)

    def test_widths(self):
        self.assertIs(is_leading(()), False)
        for width in range(1, 65):
            self.assertIs(is_leading(tuple(range(width))), True)
            self.assertIs(is_leading((-1,) * width), True)
            self.assertIs(is_leading((-2,) * width), True)
            self.assertIs(is_leading((width - 1,) * width), True)
            self.assertIs(is_leading((width,) * width), False)
        for width in (65, 66, 100):
            self.assertIs(is_leading(tuple(range(width))), False)
            self.assertIs(is_leading((-1,) * width), False)
            self.assertIs(is_leading((0,) * width), False)

    def test_one_entry_spoilt(self):
        spoilt = (True, False, "0", "", None, -3, -64, (), (0,), [], [0], 2 ** 70)
        for width in (1, 2, 64):
            for at in sorted({0, width // 2, width - 1}):
                for entry in spoilt + (width, width + 1):
                    entries = list(range(width))
                    entries[at] = entry
                    self.assertIs(is_leading(tuple(entries)), False, (width, at, entry))

    def test_a_list_is_none(self):
        for width in WIDTHS:
            self.assertIs(is_leading(list(range(width))), False)

    def test_things_of_all_kinds(self):
        for thing in ODD_THINGS:
            self.assertIs(is_leading(thing), False, thing)

    def test_what_is_handed_in_stays(self):
        inner = [0]
        thing = (inner, 1)
        self.assertIs(is_leading(thing), False)
        self.assertEqual(thing, ([0], 1))


class Led(unittest.TestCase):
    def test_written_ones(self):
        self.assertEqual(led((1, 0, -1, -2), 0b0101), 0b1010)
        self.assertEqual(led((0, 0, 0), 1), 7)
        self.assertEqual(led((2, 2, -1), 0b100), 0b011)
        self.assertEqual(led((63,) + (-1,) * 63, 2 ** 63), 1)
        self.assertEqual(led((-2,) * 63 + (0,), 1), 2 ** 64 - 1)

    def test_every_leading_and_word_of_small_widths(self):
        for width in (1, 2, 3):
            for leading in all_leadings(width):
                for word in range(2 ** width):
                    self.assertEqual(led(leading, word), led_by_places(leading, word), (leading, word))

    def test_drawn_ones(self):
        draw = drawer(4)
        for width in WIDTHS:
            for turn in range(10):
                leading = drawn_leading(draw, width)
                for word in some_words(draw, width):
                    self.assertEqual(led(leading, word), led_by_places(leading, word), (leading, word))

    def test_by_staying_and_by_nothing_but_0_or_1(self):
        draw = drawer(5)
        for width in WIDTHS:
            for word in some_words(draw, width):
                self.assertEqual(led(staying(width), word), word)
                self.assertEqual(led((-1,) * width, word), 0)
                self.assertEqual(led((-2,) * width, word), 2 ** width - 1)

    def test_a_number_is_told(self):
        self.assertIs(type(led((0,), 1)), int)
        self.assertIs(type(led((-2,), 0)), int)


class Staying(unittest.TestCase):
    def test_all_widths(self):
        self.assertEqual(staying(1), (0,))
        self.assertEqual(staying(3), (0, 1, 2))
        for width in range(1, 65):
            self.assertEqual(staying(width), tuple(range(width)))
            self.assertIs(is_leading(staying(width)), True)


class Then(unittest.TestCase):
    def test_written_ones(self):
        self.assertEqual(then((1, 2, 0), (-1, 0, -2)), (-1, 1, -2))
        self.assertEqual(then((-1, -2, 0), (1, 1, 0)), (-2, -2, -1))
        self.assertEqual(then((1, 2, 0), (0, 0, 1)), (1, 1, 2))

    def test_every_two_of_small_widths(self):
        for width in (1, 2):
            for one in all_leadings(width):
                for other in all_leadings(width):
                    self.check_then(one, other, range(2 ** width))

    def test_drawn_ones(self):
        draw = drawer(6)
        for width in WIDTHS:
            for turn in range(20):
                words = some_words(draw, width)
                self.check_then(drawn_leading(draw, width), drawn_leading(draw, width), words)

    def check_then(self, one, other, words):
        both = then(one, other)
        self.assertIs(is_leading(both), True)
        self.assertEqual(len(both), len(one))
        for word in words:
            self.assertEqual(led(both, word), led(other, led(one, word)), (one, other, word))

    def test_staying_changes_nothing(self):
        draw = drawer(7)
        for width in WIDTHS:
            leading = drawn_leading(draw, width)
            self.assertEqual(then(leading, staying(width)), leading)
            self.assertEqual(then(staying(width), leading), leading)


class KeptBy(unittest.TestCase):
    def test_written_ones(self):
        self.assertEqual(kept_by((-1, -2)), 0)
        self.assertEqual(kept_by((1, 1)), 2)
        self.assertEqual(kept_by((0, -1, 2)), 5)
        self.assertEqual(kept_by((-1,)), 0)
        self.assertEqual(kept_by((0,)), 1)
        self.assertEqual(kept_by((63,) * 64), 2 ** 63)
        self.assertEqual(kept_by(tuple(range(64))), 2 ** 64 - 1)

    def test_place_by_place(self):
        draw = drawer(8)
        leadings = all_leadings(1) + all_leadings(2) + all_leadings(3)
        leadings += [drawn_leading(draw, width) for width in WIDTHS for turn in range(10)]
        for leading in leadings:
            asked = [1 if comes_to(leading, place) else 0 for place in range(len(leading))]
            self.assertEqual(kept_by(leading), word_of(asked), leading)


class Even(unittest.TestCase):
    def test_place_by_place(self):
        draw = drawer(9)
        leadings = all_leadings(1) + all_leadings(2) + all_leadings(3) + all_leadings(4)
        leadings += [drawn_leading(draw, width) for width in WIDTHS for turn in range(10)]
        for leading in leadings:
            asked = all(len(comes_to(leading, place)) == 1 for place in range(len(leading)))
            self.assertIs(is_even(leading), asked, leading)
            if asked:
                self.check_turned_back(leading)
            else:
                self.check_refused(leading)

    def test_even_ones(self):
        draw = drawer(10)
        for width in WIDTHS:
            for turn in range(10):
                leading = drawn_even(draw, width)
                self.assertIs(is_even(leading), True)
                self.check_turned_back(leading)

    def test_even_ones_spoilt(self):
        draw = drawer(11)
        for width in WIDTHS:
            leading = drawn_even(draw, width)
            for entry in (-1, -2, (leading[0] + 1) % width):
                spoilt = (entry,) + leading[1:]
                if spoilt != leading:
                    self.assertIs(is_even(spoilt), False)
                    self.check_refused(spoilt)

    def test_written_ones(self):
        self.assertEqual(turned_back((1, 2, 0)), (2, 0, 1))
        self.assertEqual(turned_back((0,)), (0,))
        self.assertEqual(turned_back(tuple(range(63, -1, -1))), tuple(range(63, -1, -1)))

    def check_turned_back(self, leading):
        width = len(leading)
        told = turned_back(leading)
        self.assertIs(type(told), tuple)
        self.assertIs(is_leading(told), True)
        for place in range(width):
            self.assertEqual(told[leading[place]], place)
        word = drawn_word(drawer(width), width)
        self.assertEqual(led(told, led(leading, word)), word)
        self.assertEqual(turned_back(told), leading)

    def check_refused(self, leading):
        with self.assertRaises(Uneven) as caught:
            turned_back(leading)
        self.assertIs(type(caught.exception), Uneven)
        self.assertIsInstance(caught.exception, LeadError)


if __name__ == "__main__":
    unittest.main()
