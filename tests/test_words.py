import unittest

from bitlead.words import bits_in, full, low, mask_of, places_in
from tests.drawing import WIDTHS, bits_of, drawer, some_words


class PlacesIn(unittest.TestCase):
    def test_no_place(self):
        self.assertEqual(places_in(0), [])

    def test_one_place(self):
        for place in range(64):
            self.assertEqual(places_in(2 ** place), [place])

    def test_all_places(self):
        self.assertEqual(places_in(1), [0])
        self.assertEqual(places_in(2 ** 64 - 1), list(range(64)))

    def test_some(self):
        self.assertEqual(places_in(0b101101), [0, 2, 3, 5])
        self.assertEqual(places_in(2 ** 63 + 2 ** 40 + 2), [1, 40, 63])

    def test_drawn_ones_are_those_with_the_bit_1(self):
        draw = drawer(1)
        for width in WIDTHS:
            for mask in some_words(draw, width):
                asked = [place for place, bit in enumerate(bits_of(mask, width)) if bit == 1]
                self.assertEqual(places_in(mask), asked)

    def test_a_list_is_told(self):
        self.assertIs(type(places_in(0)), list)
        self.assertIs(type(places_in(5)), list)

    def test_the_told_list_is_the_askers_own(self):
        told = places_in(11)
        told.append(7)
        told[0] = 5
        self.assertEqual(places_in(11), [0, 1, 3])
        none = places_in(0)
        none.append(1)
        self.assertEqual(places_in(0), [])


class MaskOf(unittest.TestCase):
    def test_no_place(self):
        self.assertEqual(mask_of([]), 0)
        self.assertEqual(mask_of(()), 0)

    def test_one_place(self):
        for place in range(64):
            self.assertEqual(mask_of([place]), 2 ** place)
            self.assertEqual(mask_of((place,)), 2 ** place)

    def test_any_order(self):
        self.assertEqual(mask_of([5, 0, 3]), 41)
        self.assertEqual(mask_of([0, 3, 5]), 41)
        self.assertEqual(mask_of((3, 5, 0)), 41)
        self.assertEqual(mask_of(list(range(63, -1, -1))), 2 ** 64 - 1)

    def test_several_times_counts_once(self):
        self.assertEqual(mask_of([2, 2]), 4)
        self.assertEqual(mask_of([2, 2, 2]), 4)
        self.assertEqual(mask_of((63, 0, 63, 0, 1)), 2 ** 63 + 3)

    def test_what_is_handed_in_stays(self):
        handed = [3, 1, 3]
        self.assertEqual(mask_of(handed), 10)
        self.assertEqual(handed, [3, 1, 3])

    def test_what_is_changed_behind_changes_nothing(self):
        handed = [3, 1]
        told = mask_of(handed)
        handed.append(0)
        self.assertEqual(told, 10)
        self.assertEqual(mask_of(handed), 11)

    def test_a_number_is_told(self):
        self.assertIs(type(mask_of([])), int)
        self.assertIs(type(mask_of([0])), int)

    def test_back_and_forth(self):
        draw = drawer(2)
        for width in WIDTHS:
            for mask in some_words(draw, width):
                self.assertEqual(mask_of(places_in(mask)), mask)
                self.assertEqual(mask_of(tuple(places_in(mask))), mask)
            for turn in range(10):
                places = [draw.randrange(width) for time in range(draw.randrange(2 * width))]
                self.assertEqual(places_in(mask_of(places)), sorted(set(places)))


class FullAndLow(unittest.TestCase):
    def test_full(self):
        for width in range(1, 65):
            self.assertEqual(full(width), 2 ** width - 1)
            self.assertEqual(places_in(full(width)), list(range(width)))

    def test_low(self):
        self.assertEqual(low(0), 0)
        self.assertEqual(low(1), 1)
        self.assertEqual(low(64), 2 ** 64 - 1)
        for many in range(65):
            self.assertEqual(places_in(low(many)), list(range(many)))


class BitsIn(unittest.TestCase):
    def test_ends(self):
        self.assertEqual(bits_in(0), 0)
        self.assertEqual(bits_in(1), 1)
        self.assertEqual(bits_in(2 ** 63), 1)
        self.assertEqual(bits_in(2 ** 64 - 1), 64)
        self.assertEqual(bits_in(0b1011001), 4)

    def test_drawn_ones(self):
        draw = drawer(3)
        for width in WIDTHS:
            for mask in some_words(draw, width):
                self.assertEqual(bits_in(mask), sum(bits_of(mask, width)))


if __name__ == "__main__":
    unittest.main()
