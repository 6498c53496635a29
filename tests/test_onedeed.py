import unittest

from bitlead.deeds import deed_leading, is_deed
from bitlead.onedeed import one_deed
from bitlead.rows import all_deeds
from tests.drawing import WIDTHS, all_leadings, drawer, drawn_deed, drawn_even, some_deeds
from tests.model import NAMES, all_of_small_numbers, may_stand


class OneDeed(unittest.TestCase):
    def check_leads(self, leading):
        deed = one_deed(leading)
        self.assertIs(is_deed(len(leading), deed), True, (leading, deed))
        self.assertEqual(deed_leading(len(leading), deed), leading)

    def test_every_leading_of_small_widths(self):
        for width in (1, 2, 3, 4):
            there = {deed_leading(width, deed) for deed in all_deeds(width)}
            for leading in all_leadings(width):
                if leading in there:
                    self.check_leads(leading)
                else:
                    self.assertIsNone(one_deed(leading), leading)

    def test_leadings_of_wide_deeds(self):
        draw = drawer(40)
        for width in WIDTHS:
            for deed in some_deeds(draw, width):
                self.check_leads(deed_leading(width, deed))

    def test_drawn_deeds_of_each_word(self):
        draw = drawer(41)
        for width in (5, 16, 33, 64):
            for name in NAMES:
                for turn in range(10):
                    self.check_leads(deed_leading(width, drawn_deed(draw, width, name)))

    def test_written_ones_of_each_word(self):
        asked = (("or", 0b100101), ("left", 3), ("right", 3), ("turn", 3), ("swap", 0b010011, 2), ("swap", 0b1001, 4),
                 ("gather", 0b11010110), ("strew", 0b11010110), ("copy", 0b0111, 2), ("copy", 0b11110000, -3),
                 ("copy", 0b1000, 1), ("and", 0b01101001))
        for deed in asked:
            told = one_deed(deed_leading(8, deed))
            self.assertIs(is_deed(8, told), True, deed)
            self.assertEqual(deed_leading(8, told), deed_leading(8, deed))

    def test_both_0_and_1_put_in_have_none(self):
        draw = drawer(42)
        for width in (8, 33, 64):
            for name in NAMES:
                for turn in range(10):
                    leading = list(deed_leading(width, drawn_deed(draw, width, name)))
                    zero, one = draw.sample(range(width), 2)
                    leading[zero] = -1
                    leading[one] = -2
                    self.assertIsNone(one_deed(tuple(leading)), leading)

    def test_nearly_so_in_one_place(self):
        there = {deed_leading(5, deed) for deed in all_of_small_numbers(5) if may_stand(5, deed)}
        for leading in sorted(there):
            for at in range(5):
                for entry in range(-2, 5):
                    near = leading[:at] + (entry,) + leading[at + 1:]
                    self.assertEqual(one_deed(near) is not None, near in there, near)

    def test_written_ones_that_have_none(self):
        asked = (
            (1, 2, 3, 4, 5, 6, 7, 1), (1, 2, 3, 4, 5, 6, 0, 7), (-1, 0, 1, 2, 3, 4, 6, 6), (-1, 0, 1, 2, 4, 4, 5, 6),
            (2, 3, 0, 1, 4, 5, 7, 6), (4, 1, 2, 3, 0, 6, 5, 7), (1, 3, 2, -1, -1, -1, -1, -1),
            (1, 3, -1, 5, -1, -1, -1, -1), (-1, 1, 0, -1, -1, -1, -1, -1), (0, 0, 0, 3, 4, 5, 6, 7),
            (0, 0, 2, 3, 4, 4, 5, -1), (0, 0, -2, 3, 4, 5, 6, 7), (1, 0, -1, 3, 4, 5, 6, 7), (0, -1, -2, 3, 4, 5, 6, 7),
            (1, -2, 3, 4, 5, 6, 7, -1), (0, 1, 1, 3, 5, 5, 6, 7), (7, 6, 5, 4, 3, 2, 1, 0),
        )
        for leading in asked:
            self.assertIsNone(one_deed(leading), leading)

    def test_drawn_even_ones_have_none(self):
        draw = drawer(43)
        for width in (33, 64):
            for turn in range(5):
                self.assertIsNone(one_deed(drawn_even(draw, width)))

    def test_all_0_all_1_and_staying(self):
        for width in range(1, 65):
            self.check_leads((-1,) * width)
            self.check_leads((-2,) * width)
            self.check_leads(tuple(range(width)))

    def test_a_tuple_is_told(self):
        self.assertIs(type(one_deed((0,))), tuple)


if __name__ == "__main__":
    unittest.main()
