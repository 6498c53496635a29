import itertools
import unittest

from bitlead.fewcheck import shows_fewest
from bitlead.fewest import fewest, fewest_paper, how_few, reach
from bitlead.leadings import is_leading
from bitlead.rows import all_deeds, row_leading
from tests.drawing import all_leadings, drawer
from tests.model import fewest_numbers, is_shown, leading_of_row


def some_menus(draw, width):
    deeds = all_deeds(width)
    menus = [[], [deeds[0]], [("turn", 0)], [("turn", width - 1)], [("left", 1)], [("or", 1)], deeds, deeds[::-1]]
    for many in (1, 2, 3, 4, 6, 10):
        menus += [draw.sample(deeds, many) for turn in range(3)]
    drawn = draw.sample(deeds, 3)
    return menus + [drawn + drawn, [drawn[0]] * 4 + drawn[1:], [("turn", 0), ("left", 1), ("turn", 0)]]


class FewestOfSmallWidths(unittest.TestCase):
    def check_one(self, leading, menu, number):
        said = (leading, menu)
        row = fewest(leading, menu)
        paper = fewest_paper(leading, menu)
        if number is None:
            self.assertIsNone(row, said)
            self.assertIsNone(how_few(leading, menu), said)
            self.assertIsNone(paper, said)
            return
        self.assertIs(type(row), list)
        self.assertEqual(len(row), number, said)
        self.assertEqual(how_few(leading, menu), number, said)
        self.assertTrue(all(deed in menu for deed in row), said)
        self.assertEqual(row_leading(len(leading), row), leading, said)
        self.check_paper(leading, menu, row, paper)

    def check_paper(self, leading, menu, row, paper):
        self.assertIs(type(paper), list)
        self.assertEqual(len(paper), len(row))
        for part in paper:
            self.assertIs(type(part), list)
            for one in part:
                self.assertIs(is_leading(one), True)
        self.assertIs(shows_fewest(leading, menu, row, paper), True, (leading, menu, row, paper))

    def test_every_leading_of_widths_1_and_2(self):
        draw = drawer(100)
        for width in (1, 2):
            for menu in some_menus(draw, width):
                numbers = fewest_numbers(width, menu)
                for leading in all_leadings(width):
                    self.check_one(leading, menu, numbers.get(leading))

    def test_drawn_leadings_of_widths_3_and_4(self):
        draw = drawer(101)
        for width, many in ((3, 12), (4, 5)):
            for menu in some_menus(draw, width):
                numbers = fewest_numbers(width, menu)
                there = sorted(numbers)
                asked = draw.sample(all_leadings(width), many) + draw.sample(there, min(many, len(there)))
                for leading in asked + [max(there, key=numbers.get)]:
                    self.check_one(leading, menu, numbers.get(leading))

    def test_every_leading_of_width_3_by_all_deeds(self):
        menu = all_deeds(3)
        numbers = fewest_numbers(3, menu)
        for leading in all_leadings(3):
            self.check_one(leading, menu, numbers.get(leading))

    def test_a_paper_beside_a_reader_of_its_own(self):
        draw = drawer(102)
        for width in (1, 2, 3):
            for menu in some_menus(draw, width):
                numbers = fewest_numbers(width, menu)
                leading = max(sorted(numbers), key=numbers.get)
                said = (leading, menu)
                self.assertIs(is_shown(leading, menu, fewest(leading, menu), fewest_paper(leading, menu)), True, said)

    def test_beside_all_rows_one_by_one(self):
        draw = drawer(103)
        for width in (1, 2, 3, 4):
            for turn in range(3):
                menu = draw.sample(all_deeds(width), 4)
                first = {}
                for many in range(5):
                    for row in itertools.product(menu, repeat=many):
                        first.setdefault(row_leading(width, row), many)
                for leading in draw.sample(sorted(first), min(10, len(first))):
                    self.assertEqual(how_few(leading, menu), first[leading], (leading, menu))
                    self.assertEqual(len(fewest(leading, menu)), first[leading], (leading, menu))

    def test_staying_needs_no_deeds(self):
        for width in (1, 2, 3, 4):
            for menu in ([], (), [("turn", 0)], [("or", 0)], all_deeds(width)):
                staying = tuple(range(width))
                self.assertEqual(fewest(staying, menu), [])
                self.assertEqual(how_few(staying, menu), 0)
                self.assertIs(type(how_few(staying, menu)), int)
                self.assertEqual(fewest_paper(staying, menu), [])

    def test_none_where_no_row_leads_so(self):
        asked = (((1, 0), []), ((1, 0), [("and", 1)]), ((-1, -2), [("turn", 1)]), ((-1,), [("turn", 0), ("or", 1)]),
                 ((0, 1, 2, -2), [("turn", 1), ("and", 7)]), ((0, 0, 0, 0), [("left", 1), ("right", 1), ("or", 15)]))
        for leading, menu in asked:
            self.assertIsNone(fewest(leading, menu))
            self.assertIsNone(how_few(leading, menu))
            self.assertIsNone(fewest_paper(leading, menu))

    def test_written_ones(self):
        self.assertEqual(fewest((1, 2, 3, 0), [("turn", 1)]), [("turn", 1)] * 3)
        self.assertEqual(how_few((1, 2, 3, 0), [("turn", 1), ("turn", 2)]), 2)
        self.assertEqual(fewest((1, 2, 3, 0), [("turn", 3), ("turn", 1)]), [("turn", 3)])
        self.assertEqual(fewest((-2, 0, 1), [("or", 1), ("left", 1)]), [("left", 1), ("or", 1)])
        self.assertEqual(how_few((-1, 3, 3, -2), all_deeds(4)), 4)
        self.assertEqual(fewest_paper((1, 0), [("turn", 1)]), [[(0, 1)]])

    def test_tuples_are_the_same(self):
        draw = drawer(104)
        for width in (1, 2, 3):
            for menu in some_menus(draw, width):
                for leading in draw.sample(all_leadings(width), 3):
                    for ask in (fewest, how_few, fewest_paper):
                        self.assertEqual(ask(leading, tuple(menu)), ask(leading, menu))
                self.assertEqual(reach(width, tuple(menu)), reach(width, menu))

    def test_what_is_handed_in_stays_and_what_is_told_is_the_askers_own(self):
        menu = [("turn", 1), ("copy", 1, 1), ("turn", 1)]
        before = list(menu)
        leading = (0, 0, 0)
        row, paper = fewest(leading, menu), fewest_paper(leading, menu)
        kept = list(row), [list(part) for part in paper]
        all_reached = reach(3, menu)
        self.assertEqual(menu, before)
        self.assertEqual(len(set(map(id, paper))), len(paper))
        row.clear()
        for part in paper:
            part.clear()
        paper.clear()
        reached = list(all_reached)
        all_reached.clear()
        self.assertEqual((fewest(leading, menu), fewest_paper(leading, menu)), kept)
        self.assertEqual(reach(3, menu), reached)
        menu.clear()
        self.assertEqual(fewest(leading, before), kept[0])
        self.assertIsNone(fewest(leading, menu))


class Reach(unittest.TestCase):
    def test_beside_a_search_of_its_own(self):
        draw = drawer(105)
        for width in (1, 2, 3):
            for menu in some_menus(draw, width):
                told = reach(width, menu)
                numbers = fewest_numbers(width, menu)
                self.assertEqual(told, sorted((number, leading) for leading, number in numbers.items()))
                self.assertIs(type(told), list)
                for part in told:
                    self.assertIs(type(part), tuple)
                    self.assertIs(is_leading(part[1]), True)

    def test_written_ones(self):
        self.assertEqual(reach(1, []), [(0, (0,))])
        self.assertEqual(reach(3, []), [(0, (0, 1, 2))])
        self.assertEqual(reach(1, all_deeds(1)), [(0, (0,)), (1, (-2,)), (1, (-1,))])
        self.assertEqual(reach(3, [("turn", 1)]), [(0, (0, 1, 2)), (1, (2, 0, 1)), (2, (1, 2, 0))])
        self.assertEqual(reach(2, [("left", 1), ("left", 1)]), [(0, (0, 1)), (1, (-1, 0)), (2, (-1, -1))])

    def test_all_rows_one_by_one(self):
        menu = [("or", 1), ("turn", 1), ("copy", 2, -1)]
        first = {}
        for many in range(7):
            for row in itertools.product(menu, repeat=many):
                first.setdefault(leading_of_row(2, row), many)
        self.assertEqual(reach(2, menu), sorted((number, leading) for leading, number in first.items()))


if __name__ == "__main__":
    unittest.main()
