import unittest

from bitlead.deeds import deed_leading, done, is_deed
from bitlead.leadings import is_leading, led
from tests.drawing import ODD_THINGS, WIDTHS, drawer, some_deeds, some_words
from tests.model import MASK_NAMES, all_of_small_numbers, may_stand, word_done

SPOILT_PARTS = (True, False, None, "", "1", "none", (), (1,), ("and",), [], [1], ["and"])


def one_of_each(width):
    deeds = [(name, 1) for name in MASK_NAMES] + [("left", 1), ("right", 1), ("turn", 0)]
    if width > 1:
        deeds += [("swap", 1, 1), ("copy", 1, 1)]
    return deeds


class IsDeed(unittest.TestCase):
    def check(self, width, thing, asked):
        self.assertIs(is_deed(width, thing), asked, (width, thing))

    def test_all_small_numbers(self):
        for width in (1, 2, 3, 4):
            for deed in all_of_small_numbers(width):
                self.check(width, deed, may_stand(width, deed))

    def test_masks_at_the_edges(self):
        for name in MASK_NAMES:
            for width in range(1, 65):
                self.check(width, (name, 0), True)
                self.check(width, (name, 2 ** width - 1), True)
                self.check(width, (name, 2 ** width), False)
                self.check(width, (name, -1), False)

    def test_numbers_at_the_edges(self):
        for width in range(1, 65):
            for name in ("left", "right"):
                self.check(width, (name, 0), True)
                self.check(width, (name, width), True)
                self.check(width, (name, width + 1), False)
                self.check(width, (name, -1), False)
            self.check(width, ("turn", 0), True)
            self.check(width, ("turn", width - 1), True)
            self.check(width, ("turn", width), False)
            self.check(width, ("turn", -1), False)

    def test_how_far_a_swap_goes(self):
        self.check(1, ("swap", 0, 0), False)
        self.check(1, ("swap", 0, 1), False)
        for width in range(2, 65):
            self.check(width, ("swap", 0, 1), True)
            self.check(width, ("swap", 0, 0), False)
            self.check(width, ("swap", 0, -1), False)
            self.check(width, ("swap", 1, width - 1), True)
            self.check(width, ("swap", 0, width - 1), True)
            self.check(width, ("swap", 0, width), False)
            self.check(width, ("swap", 2 ** width, 1), False)
            self.check(width, ("swap", -1, 1), False)

    def test_masks_of_a_swap(self):
        self.check(64, ("swap", 2 ** 32 - 1, 32), True)
        self.check(64, ("swap", 2 ** 32, 32), False)
        self.check(64, ("swap", 0x5555555555555555, 1), True)
        self.check(64, ("swap", 0xAAAAAAAAAAAAAAAA, 1), False)
        self.check(64, ("swap", 2 ** 62, 1), True)
        self.check(64, ("swap", 2 ** 63, 1), False)
        self.check(64, ("swap", 3, 1), False)
        self.check(64, ("swap", 3, 2), True)
        self.check(8, ("swap", 0b0101, 2), False)
        self.check(8, ("swap", 0b0011, 2), True)
        self.check(8, ("swap", 0b00110011, 2), True)
        self.check(8, ("swap", 0b01000011, 2), False)

    def test_how_far_a_copy_goes(self):
        for by in (-1, 0, 1):
            self.check(1, ("copy", 0, by), False)
        for width in range(2, 65):
            for by in (1 - width, -1, 1, width - 1):
                self.check(width, ("copy", 0, by), True)
            for by in (-width, 0, width):
                self.check(width, ("copy", 0, by), False)
            self.check(width, ("copy", 2 ** width, -1), False)
            self.check(width, ("copy", -1, 1), False)

    def test_masks_of_a_copy(self):
        for width in range(2, 65):
            for by in range(1, width):
                every = 2 ** (width - by) - 1
                self.check(width, ("copy", every, by), True)
                self.check(width, ("copy", every + 2 ** (width - by), by), False)
                self.check(width, ("copy", every * 2 ** by, -by), True)
                self.check(width, ("copy", every * 2 ** by + 2 ** (by - 1), -by), False)

    def test_a_copy_may_meet_itself(self):
        self.check(8, ("copy", 0b0111, 1), True)
        self.check(8, ("copy", 0b1110, -1), True)

    def test_drawn_ones(self):
        draw = drawer(20)
        for width in WIDTHS:
            for deed in some_deeds(draw, width):
                self.check(width, deed, True)

    def test_each_part_another_thing(self):
        for width in (1, 2, 8, 64):
            for deed in one_of_each(width):
                self.check(width, deed, True)
                for at in range(len(deed)):
                    for part in SPOILT_PARTS:
                        self.check(width, deed[:at] + (part,) + deed[at + 1:], False)

    def test_a_part_less_or_more(self):
        for width in (1, 2, 8, 64):
            for deed in one_of_each(width):
                self.check(width, deed[:-1], False)
                self.check(width, deed[1:], False)
                self.check(width, deed[:1], False)
                for part in (0, 1, None, "and", ()):
                    self.check(width, deed + (part,), False)
                    self.check(width, (part,) + deed, False)

    def test_a_list_is_none(self):
        for width in (2, 64):
            for deed in one_of_each(width):
                self.check(width, list(deed), False)
                self.check(width, (deed,), False)
                self.check(width, [deed], False)

    def test_words_of_another_form(self):
        for name in ("And", "AND", "and ", " and", "", "xor", "not", "shift", "swaps", "an"):
            self.check(8, (name, 1), False)
            self.check(8, (name, 1, 1), False)

    def test_things_of_all_kinds(self):
        for width in (1, 64):
            self.check(width, (), False)
            self.check(width, [], False)
            for thing in ODD_THINGS:
                self.check(width, thing, False)

    def test_what_is_handed_in_stays(self):
        thing = (["and"], [1])
        self.check(8, thing, False)
        self.assertEqual(thing, (["and"], [1]))


class Done(unittest.TestCase):
    def test_written_ones(self):
        word = 0b10110010
        asked = (
            (("and", 0b11110000), 0b10110000), (("or", 0b00001111), 0b10111111),
            (("left", 0), word), (("left", 3), 0b10010000), (("left", 8), 0),
            (("right", 0), word), (("right", 3), 0b00010110), (("right", 8), 0),
            (("turn", 0), word), (("turn", 3), 0b10010101), (("turn", 7), 0b01011001),
            (("swap", 0b00001111, 4), 0b00101011), (("swap", 0b01010101, 1), 0b01110001), (("swap", 0, 3), word),
            (("gather", 0b11110000), 0b1011), (("gather", 0b10010010), 0b111), (("gather", 0), 0),
            (("strew", 0b11110000), 0b00100000), (("strew", 0b10010010), 0b00010000), (("strew", 255), word),
            (("copy", 0b00000111, 1), 0b10110100), (("copy", 0b10000000, -7), 0b10110011),
            (("copy", 0b11110000, -4), 0b10111011), (("copy", 0b00000010, 5), 0b11110010), (("copy", 0, 5), word),
        )
        for deed, told in asked:
            self.assertEqual(done(8, deed, word), told, deed)

    def test_every_deed_and_word_of_small_widths(self):
        for width in (1, 2, 3, 4):
            for deed in all_of_small_numbers(width):
                if may_stand(width, deed):
                    for word in range(2 ** width):
                        self.check_done(width, deed, word)

    def test_drawn_ones(self):
        draw = drawer(21)
        for width in WIDTHS:
            for deed in some_deeds(draw, width):
                for word in some_words(draw, width):
                    self.check_done(width, deed, word)

    def check_done(self, width, deed, word):
        self.assertEqual(done(width, deed, word), word_done(width, deed, word), (width, deed, word))

    def test_a_copy_is_done_all_at_once(self):
        self.assertEqual(done(4, ("copy", 0b0111, 1), 0b0001), 0b0011)
        self.assertEqual(done(4, ("copy", 0b1110, -1), 0b1000), 0b1100)

    def test_no_bit_goes_beyond_the_width(self):
        draw = drawer(22)
        for width in WIDTHS:
            for deed in some_deeds(draw, width):
                self.assertIn(done(width, deed, 2 ** width - 1), range(2 ** width), deed)


class DeedLeading(unittest.TestCase):
    def test_written_ones(self):
        asked = (
            (("and", 0b0101), (0, -1, 2, -1)), (("or", 0b0101), (-2, 1, -2, 3)),
            (("left", 1), (-1, 0, 1, 2)), (("left", 4), (-1, -1, -1, -1)), (("left", 0), (0, 1, 2, 3)),
            (("right", 1), (1, 2, 3, -1)), (("right", 4), (-1, -1, -1, -1)),
            (("turn", 1), (3, 0, 1, 2)), (("turn", 0), (0, 1, 2, 3)),
            (("swap", 0b0011, 2), (2, 3, 0, 1)), (("swap", 0b0010, 2), (0, 3, 2, 1)),
            (("gather", 0b1010), (1, 3, -1, -1)), (("gather", 0), (-1, -1, -1, -1)),
            (("strew", 0b1010), (-1, 0, -1, 1)), (("strew", 15), (0, 1, 2, 3)),
            (("copy", 0b0011, 1), (0, 0, 1, 3)), (("copy", 0b1000, -3), (3, 1, 2, 3)),
        )
        for deed, told in asked:
            self.assertEqual(deed_leading(4, deed), told, deed)

    def test_beside_done_place_by_place(self):
        draw = drawer(23)
        for width in WIDTHS:
            single = [2 ** place for place in range(width)]
            for deed in some_deeds(draw, width):
                leading = deed_leading(width, deed)
                self.assertIs(is_leading(leading), True, deed)
                self.assertEqual(len(leading), width)
                for word in [0, 2 ** width - 1] + single:
                    self.assertEqual(led(leading, word), done(width, deed, word), (width, deed, word))

    def test_every_deed_of_small_widths(self):
        for width in (1, 2, 3, 4):
            for deed in all_of_small_numbers(width):
                if may_stand(width, deed):
                    leading = deed_leading(width, deed)
                    self.assertIs(is_leading(leading), True, deed)
                    for word in range(2 ** width):
                        self.assertEqual(led(leading, word), word_done(width, deed, word), (width, deed, word))


if __name__ == "__main__":
    unittest.main()
