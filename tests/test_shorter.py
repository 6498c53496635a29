import itertools
import unittest

from bitlead.deeds import deed_leading, is_deed
from bitlead.rows import all_deeds, is_row, row_leading
from bitlead.shorter import bound, does_nothing, is_short, shortened, together
from tests.drawing import WIDTHS, drawer, drawn_deed, drawn_row, drawn_swap, drawn_word, some_deeds
from tests.model import NAMES, both_as_one, leading_of_row

LIKE_PAIRS = ("and", "or", "left", "right", "turn", "swap", "gather", "strew")


def short_by_the_words(width, row):
    if any(leading_of_row(width, [deed]) == tuple(range(width)) for deed in row):
        return False
    return all(both_as_one(width, row[at], row[at + 1]) is None for at in range(len(row) - 1))


def drawn_pairs(draw, width):
    names = NAMES if width > 1 else [name for name in NAMES if name not in ("swap", "copy")]
    pairs = []
    for name in names:
        pairs += [(drawn_deed(draw, width, name), drawn_deed(draw, width, name)) for turn in range(8)]
        pairs += [(drawn_deed(draw, width, name), drawn_deed(draw, width, draw.choice(names))) for turn in range(4)]
    for turn in range(6):
        mask = drawn_word(draw, width)
        pairs += [(("gather", mask), ("strew", mask)), (("strew", mask), ("gather", mask))]
        pairs += [(("gather", mask), ("strew", mask ^ 1)), (("strew", mask), ("gather", mask ^ 1))]
        pairs += [(("and", mask), ("or", mask)), (("and", mask), ("gather", mask)), (("strew", mask), ("and", mask))]
    for turn in range(10 if width > 1 else 0):
        swap = drawn_swap(draw, width)
        pairs += [(swap, swap), (swap, ("swap", swap[1] & drawn_word(draw, width), swap[2])), (swap, ("swap", 0, 1))]
    return pairs


class Together(unittest.TestCase):
    def check_pair(self, width, one, other):
        said = (width, one, other)
        told = together(width, one, other)
        self.assertEqual(told, both_as_one(width, one, other), said)
        if told is not None:
            self.assertIs(is_deed(width, told), True, said)
            self.assertEqual(deed_leading(width, told), row_leading(width, [one, other]), said)

    def test_every_pair_of_small_widths(self):
        for width in (1, 2, 3):
            for one, other in itertools.product(all_deeds(width), repeat=2):
                self.check_pair(width, one, other)

    def test_drawn_pairs(self):
        draw = drawer(120)
        for width in WIDTHS:
            for one, other in drawn_pairs(draw, width):
                self.check_pair(width, one, other)

    def test_drawn_pairs_beside_a_reader_of_its_own(self):
        draw = drawer(121)
        for width in (4, 8, 16):
            for one, other in drawn_pairs(draw, width):
                told = together(width, one, other)
                if told is not None:
                    self.assertEqual(leading_of_row(width, [told]), leading_of_row(width, [one, other]))

    def test_sums_at_the_width_and_above(self):
        for name in ("left", "right"):
            for one, other, told in ((0, 0, 0), (3, 4, 7), (3, 5, 8), (4, 5, 8), (8, 8, 8), (8, 0, 8), (0, 5, 5)):
                self.assertEqual(together(8, (name, one), (name, other)), (name, told))
        for one, other, told in ((0, 0, 0), (3, 4, 7), (3, 5, 0), (4, 5, 1), (7, 7, 6), (7, 0, 7)):
            self.assertEqual(together(8, ("turn", one), ("turn", other)), ("turn", told))
        self.assertEqual(together(1, ("turn", 0), ("turn", 0)), ("turn", 0))
        self.assertEqual(together(64, ("left", 33), ("left", 33)), ("left", 64))

    def test_left_and_right_do_not(self):
        self.assertIsNone(together(8, ("left", 2), ("right", 2)))
        self.assertIsNone(together(8, ("right", 2), ("left", 2)))
        self.assertIsNone(together(8, ("left", 2), ("turn", 2)))
        self.assertIsNone(together(8, ("left", 0), ("right", 0)))

    def test_masks(self):
        self.assertEqual(together(8, ("and", 0b1100), ("and", 0b1010)), ("and", 0b1000))
        self.assertEqual(together(8, ("or", 0b1100), ("or", 0b1010)), ("or", 0b1110))
        self.assertEqual(together(8, ("gather", 0b10110010), ("gather", 0b1010)), ("gather", 0b10010000))
        self.assertEqual(together(8, ("strew", 0b1010), ("strew", 0b10110010)), ("strew", 0b10010000))
        self.assertEqual(together(8, ("gather", 0b11), ("gather", 0b11111110)), ("gather", 0b10))
        self.assertEqual(together(8, ("strew", 0b11111110), ("strew", 0b11)), ("strew", 0b10))
        self.assertEqual(together(8, ("gather", 0b10110010), ("strew", 0b10110010)), ("and", 0b10110010))
        self.assertEqual(together(8, ("strew", 0b10110010), ("gather", 0b10110010)), ("and", 0b1111))
        self.assertEqual(together(8, ("strew", 0), ("gather", 0)), ("and", 0))
        self.assertEqual(together(64, ("strew", 2 ** 64 - 1), ("gather", 2 ** 64 - 1)), ("and", 2 ** 64 - 1))

    def test_unlike_masks_of_gather_and_strew(self):
        self.assertIsNone(together(8, ("gather", 0b11), ("strew", 0b101)))
        self.assertIsNone(together(8, ("strew", 0b11), ("gather", 0b101)))
        self.assertIsNone(together(8, ("gather", 0b11), ("and", 0b11)))
        self.assertIsNone(together(8, ("and", 0b11), ("gather", 0b11)))
        self.assertIsNone(together(8, ("strew", 0b11), ("and", 0b11)))
        self.assertIsNone(together(8, ("or", 0b11), ("and", 0b11)))

    def test_swaps(self):
        self.assertEqual(together(8, ("swap", 0b0101, 1), ("swap", 0b10001, 1)), ("swap", 0b10100, 1))
        self.assertEqual(together(8, ("swap", 0b0101, 1), ("swap", 0b0101, 1)), ("swap", 0, 1))
        self.assertEqual(together(8, ("swap", 0b0011, 2), ("swap", 0b110000, 2)), ("swap", 0b110011, 2))
        self.assertEqual(together(8, ("swap", 0, 3), ("swap", 0, 3)), ("swap", 0, 3))
        # Their masks together are none of a swap.
        self.assertIsNone(together(8, ("swap", 1, 1), ("swap", 2, 1)))
        self.assertIsNone(together(8, ("swap", 0b100, 2), ("swap", 0b001, 2)))
        self.assertIsNone(together(8, ("swap", 0b100001, 1), ("swap", 0b100010, 1)))
        # Unlike n.
        self.assertIsNone(together(8, ("swap", 1, 1), ("swap", 1, 2)))
        self.assertIsNone(together(8, ("swap", 0, 1), ("swap", 0, 2)))

    def test_copies_never_do(self):
        for one, other in ((("copy", 1, 1), ("copy", 1, 1)), (("copy", 0, 1), ("copy", 0, 1)),
                           (("copy", 1, 1), ("swap", 1, 1)), (("copy", 1, 1), ("copy", 2, -1))):
            self.assertIsNone(together(8, one, other))

    def test_each_word_with_each_other(self):
        for one, other in itertools.product(NAMES, repeat=2):
            pair = [(name, 1, 1) if name in ("swap", "copy") else (name, 1) for name in (one, other)]
            goes = one == other and one in LIKE_PAIRS or {one, other} == {"gather", "strew"}
            self.assertEqual(together(8, pair[0], pair[1]) is not None, goes, pair)


class DoesNothing(unittest.TestCase):
    def test_every_deed_of_small_widths(self):
        for width in (1, 2, 3, 4):
            for deed in all_deeds(width):
                asked = leading_of_row(width, [deed]) == tuple(range(width))
                self.assertIs(does_nothing(width, deed), asked, (width, deed))

    def test_some_deeds(self):
        draw = drawer(122)
        for width in WIDTHS:
            for deed in some_deeds(draw, width):
                self.assertIs(does_nothing(width, deed), deed_leading(width, deed) == tuple(range(width)))

    def test_written_ones(self):
        every = 2 ** 64 - 1
        for deed in (("and", every), ("or", 0), ("left", 0), ("right", 0), ("turn", 0), ("swap", 0, 1),
                     ("gather", every), ("strew", every), ("copy", 0, 63), ("copy", 0, -63)):
            self.assertIs(does_nothing(64, deed), True, deed)
        for deed in (("and", every - 1), ("or", 1), ("left", 1), ("right", 64), ("turn", 63), ("swap", 1, 63),
                     ("gather", every - 1), ("strew", every // 2), ("copy", 1, 63), ("copy", 2 ** 63, -63)):
            self.assertIs(does_nothing(64, deed), False, deed)


class Shortened(unittest.TestCase):
    def check_row(self, width, row):
        before = list(row)
        told = shortened(width, row)
        self.assertIs(type(told), list)
        self.assertIs(is_row(width, told), True, (width, row, told))
        self.assertEqual(row_leading(width, told), row_leading(width, row), (width, row, told))
        self.assertLessEqual(len(told), len(row))
        self.assertTrue(short_by_the_words(width, told), (width, row, told))
        self.assertIs(is_short(width, told), True)
        self.assertIs(is_short(width, tuple(told)), True)
        self.assertIs(is_short(width, row), short_by_the_words(width, row), (width, row))
        self.assertEqual(list(row), before)
        self.assertIsNot(told, row)
        self.assertEqual(shortened(width, tuple(row)), told)
        return told

    def test_no_deeds(self):
        for width in (1, 64):
            for row in ([], ()):
                self.assertEqual(shortened(width, row), [])
                self.assertIs(is_short(width, row), True)

    def test_one_deed(self):
        for width in (1, 2, 3, 4):
            for deed in all_deeds(width):
                told = self.check_row(width, [deed])
                self.assertEqual(told == [], does_nothing(width, deed))

    def test_every_two_deeds_of_small_widths(self):
        for width in (1, 2):
            for row in itertools.product(all_deeds(width), repeat=2):
                self.check_row(width, list(row))

    def test_every_three_deeds_of_width_1(self):
        for row in itertools.product(all_deeds(1), repeat=3):
            self.check_row(1, list(row))

    def test_drawn_rows(self):
        draw = drawer(123)
        for width in (2, 3, 4, 8, 33):
            for many in (3, 4, 5, 8, 13, 40):
                for turn in range(3):
                    self.check_row(width, drawn_row(draw, width, many))

    def test_drawn_rows_of_few_deeds(self):
        draw = drawer(124)
        for width in (2, 3, 4, 8):
            for turn in range(25):
                few = drawn_row(draw, width, 3) + [drawn_swap(draw, width)]
                self.check_row(width, [draw.choice(few) for time in range(12)])

    def test_many_deeds(self):
        draw = drawer(125)
        self.check_row(8, drawn_row(draw, 8, 200))
        self.check_row(64, [("turn", 1)] * 200)
        told = shortened(64, [("turn", 1)] * 200)
        self.assertEqual(told, [("turn", 8)])

    def test_rows_that_come_to_nothing(self):
        swap = ("swap", 0b0101, 1)
        far = ("swap", 0b1111, 4)
        rows = ([("turn", 3), ("turn", 5)], [swap, swap], [("or", 0)] * 5, [swap, far, far, swap],
                [swap, ("turn", 3), ("turn", 4), ("turn", 1), swap], [far, swap, far, far, swap, far],
                [("turn", 4)] * 6, [("copy", 0, 1), ("and", 255), ("left", 0)])
        for row in rows:
            self.assertEqual(self.check_row(8, row), [], row)
        deep = [("turn", 1), swap] * 50
        back = [swap, ("turn", 7)] * 50
        self.assertEqual(self.check_row(8, deep + back), [])

    def test_rows_that_need_several_goes(self):
        swap = ("swap", 0b0101, 1)
        self.assertEqual(shortened(8, [("left", 1), swap, ("turn", 3), ("turn", 5), swap, ("left", 2)]), [("left", 3)])
        self.assertEqual(shortened(8, [("and", 15), ("gather", 60), ("strew", 60)]), [("and", 12)])
        self.assertEqual(shortened(8, [("and", 14), ("or", 0), ("and", 7), ("left", 0), ("and", 3)]), [("and", 2)])

    def test_is_short(self):
        asked = (([("left", 1)], True), ([("left", 1), ("right", 1)], True), ([("left", 1), ("left", 1)], False),
                 ([("left", 0)], False), ([("left", 1), ("or", 0)], False), ([("or", 0), ("left", 1)], False),
                 ([("copy", 1, 1), ("copy", 1, 1)], True), ([("swap", 1, 1), ("swap", 2, 1)], True),
                 ([("swap", 1, 1), ("swap", 4, 1)], False), ([("or", 1), ("left", 1), ("or", 1)], True),
                 ([("or", 1), ("left", 1), ("or", 1), ("or", 2)], False))
        for row, told in asked:
            self.assertIs(is_short(8, row), told, row)
            self.assertIs(is_short(8, tuple(row)), told, row)

    def test_the_told_row_is_the_askers_own(self):
        row = [("left", 1), ("or", 1)]
        told = shortened(8, row)
        self.assertEqual(told, row)
        told.append(("or", 2))
        told[0] = None
        self.assertEqual(row, [("left", 1), ("or", 1)])
        self.assertEqual(shortened(8, row), [("left", 1), ("or", 1)])


class Bound(unittest.TestCase):
    def check_rows(self, width, rows):
        before = [list(row) for row in rows]
        whole = [deed for row in rows for deed in row]
        told = bound(width, rows)
        self.assertIs(type(told), list)
        self.assertEqual(told, shortened(width, whole))
        self.assertEqual(row_leading(width, told), row_leading(width, whole))
        self.assertLessEqual(len(told), len(whole))
        self.assertTrue(short_by_the_words(width, told))
        self.assertEqual([list(row) for row in rows], before)
        for row in rows:
            self.assertIsNot(told, row)
        self.assertEqual(bound(width, tuple(rows)), told)
        self.assertEqual(bound(width, [tuple(row) for row in rows]), told)

    def test_no_rows_and_rows_without_deeds(self):
        for rows in ([], (), [[]], [()], ([], (), [])):
            self.assertEqual(bound(8, rows), [])
        self.assertEqual(bound(8, [[], [("left", 1)], []]), [("left", 1)])

    def test_across_the_ends(self):
        self.assertEqual(bound(8, [[("left", 1)], [("left", 2)]]), [("left", 3)])
        self.assertEqual(bound(8, [[("or", 1), ("turn", 3)], [("turn", 5), ("or", 2)]]), [("or", 3)])
        self.assertEqual(bound(8, [[("turn", 3)], [], [("turn", 5)]]), [])
        self.assertEqual(bound(8, [[("left", 1)], [("or", 1)]]), [("left", 1), ("or", 1)])
        self.assertEqual(bound(8, [[("or", 1)], [("left", 1)]]), [("or", 1), ("left", 1)])

    def test_drawn_rows(self):
        draw = drawer(126)
        for width in (1, 2, 3, 8, 33):
            for many in (1, 2, 3, 5):
                self.check_rows(width, [drawn_row(draw, width, draw.randrange(8)) for turn in range(many)])
        self.check_rows(8, [drawn_row(draw, 8, 50) for turn in range(4)])

    def test_one_row_is_not_told_itself(self):
        row = [("left", 1)]
        told = bound(8, [row])
        told.append(None)
        self.assertEqual(row, [("left", 1)])


if __name__ == "__main__":
    unittest.main()
