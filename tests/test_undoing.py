import itertools
import unittest

from bitlead.anyrow import any_row
from bitlead.errors import LeadError, Lost
from bitlead.leadings import then
from bitlead.rows import all_deeds, is_row, row_done, row_leading
from bitlead.shorter import shortened
from bitlead.undoing import back, same_rows, undone, unlike_words
from tests.drawing import (WIDTHS, all_leadings, drawer, drawn_copy, drawn_even, drawn_leading, drawn_row, drawn_swap,
                           drawn_word, some_evens, some_unevens, some_words)
from tests.model import led_by_places, leading_of_row, places_of, word_done


def even_by_places(width, deed):
    return sorted(leading_of_row(width, [deed])) == list(range(width))


def first_uneven(width, row):
    for number, deed in enumerate(row):
        if not even_by_places(width, deed):
            return number
    return None


def idle_deeds(width):
    every = 2 ** width - 1
    idle = [("and", every), ("or", 0), ("left", 0), ("right", 0), ("turn", 0), ("gather", every), ("strew", every)]
    return idle + ([("swap", 0, 1), ("copy", 0, 1), ("copy", 0, 1 - width)] if width > 1 else [])


def even_deed(draw, width):
    sort = draw.randrange(5 if width > 1 else 2)
    if sort == 0:
        return draw.choice(idle_deeds(width))
    return drawn_swap(draw, width) if sort > 2 else ("turn", draw.randrange(width))


def uneven_deed(draw, width):
    every = 2 ** width - 1
    bit = 2 ** draw.randrange(width)
    by = draw.randrange(1, width + 1)
    deeds = [("and", every - bit), ("and", 0), ("or", bit), ("or", every), ("left", by), ("right", by),
             ("gather", every - bit), ("gather", 0), ("strew", every - bit), ("strew", 0)]
    copies = [drawn_copy(draw, width) for turn in range(4)] if width > 1 else []
    return draw.choice(deeds + [copy for copy in copies if copy[1] != 0])


class Undone(unittest.TestCase):
    def check_row(self, width, row, words):
        before = list(row)
        told = undone(width, row)
        said = (width, row, told)
        self.assertIs(type(told), list)
        self.assertIs(is_row(width, told), True, said)
        self.assertEqual(len(told), len(row), said)
        self.assertEqual(row_leading(width, list(row) + told), tuple(range(width)), said)
        for word in words:
            self.assertEqual(row_done(width, told, row_done(width, row, word)), word, said)
        self.assertEqual(list(row), before)
        self.assertIsNot(told, row)
        self.assertEqual(undone(width, tuple(row)), told)
        return told

    def check_lost(self, width, row, place):
        before = list(row)
        for handed in (row, tuple(row)):
            with self.assertRaises(Lost) as caught:
                undone(width, handed)
            self.assertEqual(caught.exception.place, place, (width, row))
            self.assertIs(type(caught.exception.place), int)
            self.assertIsInstance(caught.exception, LeadError)
        self.assertEqual(list(row), before)

    def check_either(self, width, row):
        place = first_uneven(width, row)
        if place is None:
            self.check_row(width, row, range(2 ** width))
        else:
            self.check_lost(width, row, place)

    def test_no_deeds(self):
        for width in range(1, 65):
            self.assertEqual(self.check_row(width, [], [0, 2 ** width - 1]), [])

    def test_every_deed_of_small_widths(self):
        for width in (1, 2, 3, 4):
            for deed in all_deeds(width):
                self.check_either(width, [deed])

    def test_every_two_deeds_of_small_widths(self):
        for width in (1, 2):
            for row in itertools.product(all_deeds(width), repeat=2):
                self.check_either(width, list(row))

    def test_deeds_that_do_nothing(self):
        for width in (1, 2, 3, 8, 33, 64):
            for deed in idle_deeds(width):
                self.check_row(width, [deed], [0, 1, 2 ** width - 1])
            self.check_row(width, idle_deeds(width), [0, 1, 2 ** width - 1])

    def test_every_turn(self):
        for width in (1, 2, 3, 5, 8, 64):
            for by in range(width):
                told = self.check_row(width, [("turn", by)], [1, 2 ** (width - 1)])
                self.assertEqual(leading_of_row(width, told), tuple((at + by) % width for at in range(width)))

    def test_drawn_rows(self):
        draw = drawer(130)
        for width in (1, 2, 3, 5, 8, 33, 64):
            for many in (1, 2, 3, 7, 20):
                for turn in range(4):
                    row = [even_deed(draw, width) for time in range(many)]
                    self.check_row(width, row, some_words(draw, width))

    def test_drawn_rows_beside_a_reader_of_its_own(self):
        draw = drawer(131)
        for width in (2, 3, 8, 16):
            for many in (2, 5):
                row = [even_deed(draw, width) for time in range(many)]
                told = undone(width, row)
                self.assertEqual(leading_of_row(width, row + told), tuple(range(width)), (row, told))
                word = drawn_word(draw, width)
                led = word
                for deed in row + told:
                    led = word_done(width, deed, led)
                self.assertEqual(led, word)

    def test_many_deeds(self):
        draw = drawer(132)
        row = [even_deed(draw, 64) for turn in range(200)]
        told = self.check_row(64, row, some_words(draw, 64))
        self.assertEqual(len(told), 200)

    def test_what_was_told_is_undone_again(self):
        draw = drawer(133)
        for width in (2, 3, 8, 64):
            row = [even_deed(draw, width) for turn in range(9)]
            self.assertEqual(row_leading(width, undone(width, undone(width, row))), row_leading(width, row))

    def test_one_deed_that_is_not_even_at_each_place(self):
        draw = drawer(134)
        for width in (1, 2, 3, 8, 33, 64):
            for many in (1, 2, 6):
                for place in range(many):
                    row = [even_deed(draw, width) for turn in range(many)]
                    row[place] = uneven_deed(draw, width)
                    self.check_lost(width, row, place)

    def test_several_that_are_not_even(self):
        draw = drawer(135)
        for width in (1, 2, 3, 8, 64):
            for turn in range(10):
                row = [even_deed(draw, width) for time in range(10)]
                places = draw.sample(range(10), draw.randrange(2, 6))
                for place in places:
                    row[place] = uneven_deed(draw, width)
                self.check_lost(width, row, min(places))
        self.check_lost(8, [("turn", 1)] * 199 + [("left", 1)], 199)

    def test_a_row_that_stays_by_deeds_that_do_not(self):
        # Each deed is asked by itself, not what comes of all.
        self.check_lost(2, [("turn", 1), ("copy", 1, 1), ("and", 0)], 1)
        self.check_lost(8, [("strew", 0b10110010), ("gather", 0b10110010)], 0)
        self.check_lost(4, [("and", 0b1111), ("and", 0b0111), ("and", 0b1111)], 1)

    def test_the_told_row_is_the_askers_own(self):
        row = [("turn", 3), ("swap", 1, 1)]
        told = undone(8, row)
        first = list(told)
        told.append(None)
        told[0] = None
        self.assertEqual(row, [("turn", 3), ("swap", 1, 1)])
        self.assertEqual(undone(8, row), first)
        row.clear()
        self.assertEqual(len(first), 2)


class Back(unittest.TestCase):
    def check(self, leading, mask):
        width = len(leading)
        wanted = places_of(mask)
        gone = [place for place in wanted if place not in leading]
        if gone:
            with self.assertRaises(Lost) as caught:
                back(leading, mask)
            self.assertEqual(caught.exception.place, min(gone), (leading, mask))
            self.assertIsInstance(caught.exception, LeadError)
            return
        told = back(leading, mask)
        self.assertIs(type(told), tuple)
        asked = []
        for place in range(width):
            comes_to = [to for to, entry in enumerate(leading) if entry == place]
            asked.append(min(comes_to) if place in wanted else -1)
        self.assertEqual(told, tuple(asked), (leading, mask))
        kept = tuple(place if place in wanted else -1 for place in range(width))
        self.assertEqual(then(leading, told), kept, (leading, mask))

    def test_every_leading_and_mask_of_small_widths(self):
        for width in (1, 2, 3):
            for leading in all_leadings(width):
                for mask in range(2 ** width):
                    self.check(leading, mask)

    def test_drawn_leadings(self):
        draw = drawer(136)
        for width in range(1, 65):
            for leading in [drawn_leading(draw, width)] + some_unevens(draw, width)[:6] + some_evens(draw, width)[-2:]:
                kept = sum(2 ** place for place in set(leading) if place >= 0)
                masks = [0, 2 ** width - 1, kept, kept & drawn_word(draw, width), drawn_word(draw, width)]
                masks += [2 ** place for place in {0, width // 2, width - 1}]
                for mask in masks:
                    self.check(leading, mask)

    def test_beside_the_deed_and(self):
        draw = drawer(137)
        for width in (1, 2, 3, 8, 16):
            for leading in some_evens(draw, width)[:6] + [drawn_leading(draw, width) for turn in range(6)]:
                kept = sum(2 ** place for place in set(leading) if place >= 0)
                for mask in (0, kept, kept & drawn_word(draw, width)):
                    told = then(leading, back(leading, mask))
                    self.assertEqual(told, leading_of_row(width, [("and", mask)]))
                    word = drawn_word(draw, width)
                    self.assertEqual(led_by_places(back(leading, mask), led_by_places(leading, word)), word & mask)

    def test_the_least_of_several_places(self):
        self.assertEqual(back((1, 1, -2, 1), 0b0010), (-1, 0, -1, -1))
        self.assertEqual(back((-1, 3, 3, 3), 0b1000), (-1, -1, -1, 1))
        self.assertEqual(back((0, 2, 0, 2), 0b0101), (0, -1, 1, -1))
        self.assertEqual(back((63,) * 64, 2 ** 63), (-1,) * 63 + (0,))
        self.assertEqual(back((-1,) * 63 + (0,), 1), (63,) + (-1,) * 63)

    def test_all_and_none(self):
        draw = drawer(138)
        for width in WIDTHS:
            even = drawn_even(draw, width)
            self.assertEqual(then(even, back(even, 2 ** width - 1)), tuple(range(width)))
            self.assertEqual(back(even, 0), (-1,) * width)
            self.assertEqual(back((-2,) * width, 0), (-1,) * width)

    def test_the_least_place_that_is_lost(self):
        for leading, mask, place in (((1, 0, -1, -2), 0b1111, 2), ((1, 0, -1, -2), 0b1011, 3), ((-1,), 1, 0),
                                     ((-2,), 1, 0), ((1, 1), 0b11, 0), ((0, 0), 0b10, 1), ((3, 2, 2, 3), 0b1111, 0),
                                     ((3, 2, 2, 3), 0b1110, 1), ((0,) * 64, 2 ** 64 - 1, 1),
                                     ((0,) * 64, 2 ** 63, 63), ((-1,) * 64, 2 ** 63 + 2 ** 40, 40)):
            with self.assertRaises(Lost) as caught:
                back(leading, mask)
            self.assertEqual(caught.exception.place, place, (leading, mask))
            self.assertIs(type(caught.exception.place), int)


class UnlikeWords(unittest.TestCase):
    def check_among_all(self, leadings, width):
        made = {leading: [led_by_places(leading, word) for word in range(2 ** width)] for leading in leadings}
        for one, other in itertools.product(leadings, repeat=2):
            unlike = [word for word in range(2 ** width) if made[one][word] != made[other][word]]
            told = unlike_words(one, other)
            if unlike:
                self.assertEqual(told, unlike[0], (one, other))
                self.assertIs(type(told), int)
            else:
                self.assertIsNone(told, (one, other))
            self.assertEqual(told is None, one == other)

    def test_every_two_leadings_of_small_widths(self):
        for width in (1, 2):
            self.check_among_all(all_leadings(width), width)

    def test_many_leadings_of_widths_3_and_8(self):
        draw = drawer(139)
        self.check_among_all(draw.sample(all_leadings(3), 60), 3)
        near = [drawn_leading(draw, 8)]
        for turn in range(20):
            entries = list(draw.choice(near))
            entries[draw.randrange(8)] = draw.randrange(-2, 8)
            near.append(tuple(entries))
        self.check_among_all(sorted(set(near)), 8)

    def test_leadings_that_differ_at_one_entry(self):
        draw = drawer(140)
        for width in (2, 3, 8, 33, 63, 64):
            for turn in range(12):
                leading = drawn_leading(draw, width)
                at = draw.randrange(width)
                here, there = draw.sample(range(width), 2)
                for one, other, asked in ((here, there, 2 ** min(here, there)), (here, -1, 2 ** here), (here, -2, 0),
                                          (-1, -2, 0)):
                    handed = [leading[:at] + (entry,) + leading[at + 1:] for entry in (one, other)]
                    self.assertEqual(unlike_words(handed[0], handed[1]), asked, handed)
                    self.assertEqual(unlike_words(handed[1], handed[0]), asked, handed)

    def test_leadings_that_differ_at_several_entries(self):
        draw = drawer(141)
        for width in (3, 8, 33, 64):
            for turn in range(15):
                one = drawn_leading(draw, width)
                other = list(one)
                for at in draw.sample(range(width), draw.randrange(2, width + 1)):
                    other[at] = draw.randrange(-1, width)
                told = unlike_words(one, tuple(other))
                if told is None:
                    self.assertEqual(one, tuple(other))
                    continue
                self.assertNotEqual(led_by_places(one, told), led_by_places(tuple(other), told))
                for word in [0, told // 3, told // 2, told - 1] + [2 ** place for place in range(width)]:
                    if 0 <= word < told:
                        self.assertEqual(led_by_places(one, word), led_by_places(tuple(other), word))

    def test_the_least_of_all_entries(self):
        self.assertEqual(unlike_words((3, -1, 5, 7, 4, 5, 6, 7), (7, 6, 4, -1, 4, 5, 6, 7)), 2 ** 3)
        self.assertEqual(unlike_words((7, -1, 5, 7, 4, 5, 6, 7), (7, 6, 4, -1, 4, 5, 6, 7)), 2 ** 4)
        self.assertEqual(unlike_words((7, -1, 5, 7, 4, 5, 6, 7), (7, 6, 5, -1, 4, 5, 6, 7)), 2 ** 6)
        self.assertEqual(unlike_words((7, -1, 5, 7, 4, 5, 6, -2), (7, 6, 5, -1, 4, 5, 6, 7)), 0)
        self.assertEqual(unlike_words((-1,) * 63 + (63,), (-1,) * 64), 2 ** 63)

    def test_the_same(self):
        draw = drawer(142)
        for width in range(1, 65):
            leading = drawn_leading(draw, width)
            self.assertIsNone(unlike_words(leading, tuple(list(leading))))


class SameRows(unittest.TestCase):
    def check(self, width, one, other, asked):
        before = (list(one), list(other))
        for here, there in itertools.product((list(one), tuple(one)), (list(other), tuple(other))):
            self.assertIs(same_rows(width, here, there), asked, (width, one, other))
            self.assertIs(same_rows(width, there, here), asked, (width, one, other))
        self.assertIs(same_rows(width, one, other), asked)
        self.assertEqual((list(one), list(other)), before)

    def test_every_two_deeds_of_small_widths(self):
        for width in (1, 2, 3):
            deeds = all_deeds(width)
            leadings = {deed: leading_of_row(width, [deed]) for deed in deeds}
            for one, other in itertools.product(deeds, repeat=2):
                self.assertIs(same_rows(width, [one], [other]), leadings[one] == leadings[other], (one, other))
            for deed in deeds:
                self.check(width, [], [deed], leadings[deed] == tuple(range(width)))

    def test_rows_by_other_deeds(self):
        self.check(8, [], [], True)
        self.check(8, [("left", 3)], [("left", 1), ("left", 2)], True)
        self.check(8, [("left", 3)], [("strew", 0b11111000)], True)
        self.check(8, [("right", 3)], [("gather", 0b11111000)], True)
        self.check(8, [("turn", 3), ("turn", 5)], [], True)
        self.check(4, [("turn", 2)], [("swap", 0b0011, 2)], True)
        self.check(4, [("and", 0b0011), ("or", 0b1000)], [("or", 0b1000), ("and", 0b1011)], True)
        self.check(4, [("left", 4)], [("and", 0), ("left", 1)], True)

    def test_rows_that_do_not(self):
        self.check(8, [("left", 3)], [("left", 1), ("left", 1)], False)
        self.check(8, [("left", 3)], [("turn", 3)], False)
        self.check(4, [("and", 0b0011), ("or", 0b1000)], [("or", 0b1000), ("and", 0b0011)], False)
        self.check(64, [("or", 2 ** 63)], [], False)
        self.check(64, [("swap", 1, 63)], [("copy", 1, 63)], False)

    def test_drawn_rows(self):
        draw = drawer(143)
        for width in (2, 4, 8, 64):
            for many in (1, 4, 12):
                row = drawn_row(draw, width, many)
                self.check(width, row, shortened(width, row), True)
                self.check(width, row, any_row(row_leading(width, row)), True)
                other = drawn_row(draw, width, many)
                self.check(width, row, other, row_leading(width, row) == row_leading(width, other))
                even = [even_deed(draw, width) for turn in range(many)]
                self.check(width, even + undone(width, even), [], True)
                self.check(width, even + [("or", 1)], even, False)


if __name__ == "__main__":
    unittest.main()
