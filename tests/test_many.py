import unittest

from bitlead.leadings import led
from bitlead.many import packed, sliced, slices_led, unpacked, unsliced
from bitlead.wider import lanes
from tests.drawing import bits_of, drawer, drawn_leading, drawn_word, word_of
from tests.model import led_by_places

NUMBERS = (0, 1, 2, 7, 33, 63, 64)


def drawn_words(draw, width, many):
    words = [drawn_word(draw, width) for turn in range(many)]
    for at, word in ((0, 2 ** width - 1), (many // 2, 0)):
        if many > 3:
            words[at] = word
    return words


def slices_by_bits(words, width):
    table = [bits_of(word, width) for word in words]
    return [word_of([bits[place] for bits in table]) for place in range(width)]


class Packed(unittest.TestCase):
    def check(self, words, width):
        before = list(words)
        told = packed(words, width)
        self.assertIs(type(told), int)
        self.assertEqual(told, word_of([bit for word in words for bit in bits_of(word, width)]), (words, width))
        again = unpacked(told, width, len(words))
        self.assertIs(type(again), list)
        self.assertEqual(again, list(words), width)
        self.assertEqual(list(words), before)
        self.assertEqual(packed(tuple(words), width), told)

    def test_as_many_as_fit(self):
        draw = drawer(180)
        for width in range(1, 65):
            for many in sorted({0, 1, 64 // width // 2, 64 // width}):
                self.check(drawn_words(draw, width, many), width)
                self.check([2 ** width - 1] * many, width)
                self.check([0] * many, width)

    def test_written_ones(self):
        self.assertEqual(packed([], 8), 0)
        self.assertEqual(packed([0b01, 0b10, 0b11], 2), 0b111001)
        self.assertEqual(packed([0x12, 0x34], 8), 0x3412)
        self.assertEqual(packed([2 ** 64 - 1], 64), 2 ** 64 - 1)
        self.assertEqual(unpacked(0x3412, 8, 2), [0x12, 0x34])
        self.assertEqual(unpacked(0x3412, 4, 4), [2, 1, 4, 3])

    def test_more_words_than_places_set(self):
        self.assertEqual(unpacked(0x3412, 8, 5), [0x12, 0x34, 0, 0, 0])
        self.assertEqual(unpacked(0, 8, 8), [0] * 8)
        self.assertEqual(unpacked(1, 1, 64), [1] + [0] * 63)
        self.assertEqual(unpacked(0, 64, 1), [0])

    def test_fewer_words_than_places_set(self):
        self.assertEqual(unpacked(0x563412, 8, 2), [0x12, 0x34])
        self.assertEqual(unpacked(0x563412, 8, 0), [])

    def test_every_word_of_small_widths(self):
        for width, many in ((1, 6), (2, 3), (3, 2), (6, 1)):
            for word in range(64):
                words = unpacked(word, width, many)
                self.assertEqual(packed(words, width), word)

    def test_lanes_lead_packed_words(self):
        draw = drawer(181)
        for width, many in ((1, 64), (3, 5), (8, 8), (32, 2), (64, 1)):
            words = drawn_words(draw, width, many)
            leading = drawn_leading(draw, width)
            whole = led(lanes(leading, many), packed(words, width))
            self.assertEqual(unpacked(whole, width, many), [led_by_places(leading, word) for word in words])

    def test_the_told_list_is_the_askers_own(self):
        told = unpacked(0x3412, 8, 2)
        told.append(None)
        self.assertEqual(unpacked(0x3412, 8, 2), [0x12, 0x34])


class Sliced(unittest.TestCase):
    def check(self, words, width):
        before = list(words)
        told = sliced(words, width)
        self.assertIs(type(told), list)
        self.assertEqual(told, slices_by_bits(words, width), (words, width))
        again = unsliced(told, len(words))
        self.assertIs(type(again), list)
        self.assertEqual(again, list(words), width)
        self.assertEqual(list(words), before)
        self.assertIsNot(told, words)
        self.assertEqual(sliced(tuple(words), width), told)
        self.assertEqual(unsliced(tuple(told), len(words)), list(words))
        self.assertEqual(told, slices_by_bits(words, width))

    def test_every_width(self):
        draw = drawer(182)
        for width in range(1, 65):
            for many in (0, 1, 2, draw.randrange(3, 64), 64):
                self.check(drawn_words(draw, width, many), width)

    def test_every_number(self):
        draw = drawer(183)
        for many in range(65):
            for width in (1, 2, 8):
                self.check(drawn_words(draw, width, many), width)

    def test_written_ones(self):
        self.assertEqual(sliced([], 3), [0, 0, 0])
        self.assertEqual(sliced([0b01, 0b10, 0b11], 2), [0b101, 0b110])
        self.assertEqual(sliced([5], 4), [1, 0, 1, 0])
        self.assertEqual(sliced([1] * 64, 1), [2 ** 64 - 1])
        self.assertEqual(unsliced([0b101, 0b110], 3), [0b01, 0b10, 0b11])
        self.assertEqual(unsliced([0, 0, 0], 0), [])
        self.assertEqual(unsliced([0, 0], 3), [0, 0, 0])

    def test_the_told_lists_are_the_askers_own(self):
        words = [1, 2]
        told = sliced(words, 2)
        told[0] = None
        self.assertEqual(words, [1, 2])
        self.assertEqual(sliced(words, 2), [1, 2])
        self.assertIsNot(sliced(words, 2), words)
        self.assertIsNot(unsliced(words, 2), words)


class SlicesLed(unittest.TestCase):
    def check(self, leading, words):
        width = len(leading)
        slices = slices_by_bits(words, width)
        before = list(slices)
        told = slices_led(leading, slices, len(words))
        self.assertIs(type(told), list)
        self.assertEqual(told, slices_by_bits([led_by_places(leading, word) for word in words], width), leading)
        self.assertEqual(unsliced(told, len(words)), [led(leading, word) for word in words])
        self.assertEqual(slices, before)
        self.assertIsNot(told, slices)
        self.assertEqual(slices_led(leading, tuple(slices), len(words)), told)

    def test_drawn_ones(self):
        draw = drawer(184)
        for width in (1, 2, 3, 8, 33, 63, 64):
            for many in NUMBERS:
                for leading in ((-1,) * width, (-2,) * width, tuple(range(width)), (width - 1,) * width,
                                drawn_leading(draw, width), drawn_leading(draw, width)):
                    self.check(leading, drawn_words(draw, width, many))

    def test_every_width(self):
        draw = drawer(185)
        for width in range(1, 65):
            self.check(drawn_leading(draw, width), drawn_words(draw, width, draw.randrange(65)))

    def test_written_ones(self):
        self.assertEqual(slices_led((1, 0, -1, -2), [0b101, 0b110, 0b111, 0], 3), [0b110, 0b101, 0, 0b111])
        self.assertEqual(slices_led((-2, 0), [0, 0], 64), [2 ** 64 - 1, 0])
        self.assertEqual(slices_led((-2, 0), [0, 0], 0), [0, 0])

    def test_of_slices_of_more_words_the_first_ones(self):
        self.assertEqual(slices_led((1, -2), [0b1010, 0b1111], 2), [0b11, 0b11])

    def test_a_leading_that_stays_tells_another_list(self):
        slices = [1, 2]
        told = slices_led((0, 1), slices, 2)
        self.assertEqual(told, slices)
        told.append(None)
        self.assertEqual(slices, [1, 2])


if __name__ == "__main__":
    unittest.main()
