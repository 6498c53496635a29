import itertools
import unittest

from bitlead.fewcheck import shows_fewest
from bitlead.fewest import fewest, fewest_paper
from bitlead.rows import all_deeds, row_leading
from tests.drawing import ODD_THINGS, all_leadings, drawer
from tests.model import fewest_numbers, is_shown

MENU = [("turn", 1), ("copy", 1, 1)]
LEADING = (0, 0, 0)
NO_LEADINGS = (None, True, False, 0, 1, "", "012", (), [], (0,), (0, 1), (0, 1, 2, 3), [0, 1, 2], (0, 1, 3), (0, 1, -3),
               (0, True, 2), (False, 1, 2), (0, "1", 2), (0, None, 2), ((0,), 1, 2), ([0], 1, 2), ((0, 1, 2),))


def just_needed(leading, menu, many):
    # The leadings that rows of just so many deeds lead, for each number below many.
    parts = []
    for number in range(many):
        parts.append(sorted({row_leading(len(leading), row) for row in itertools.product(menu, repeat=number)}))
    return parts


class ShowsFewest(unittest.TestCase):
    def check(self, row, paper, asked, leading=LEADING, menu=MENU):
        told = shows_fewest(leading, menu, row, paper)
        self.assertIs(told, asked, (leading, menu, row, paper))

    def right(self):
        row = fewest(LEADING, MENU)
        return row, just_needed(LEADING, MENU, len(row))

    def test_the_asked_row_has_some_deeds(self):
        row, paper = self.right()
        self.assertEqual(len(row), 4)
        self.check(row, paper, True)
        self.check(row, fewest_paper(LEADING, MENU), True)

    def test_another_order_and_several_times(self):
        draw = drawer(110)
        row, paper = self.right()
        for turn in range(10):
            other = [part + draw.choices(part, k=3) for part in paper]
            for part in other:
                draw.shuffle(part)
            self.check(row, other, True)

    def test_tuples_are_the_same(self):
        row, paper = self.right()
        for some in (row, tuple(row)):
            self.check(some, tuple(paper), True)
            self.check(some, [tuple(part) for part in paper], True)
            self.check(some, tuple(tuple(part) for part in paper), True)
            self.check(some, [tuple(paper[0])] + paper[1:], True)
            self.check(some, paper, True, menu=tuple(MENU))

    def test_more_leadings_than_needed(self):
        row, paper = self.right()
        numbers = fewest_numbers(3, MENU)
        # A leading in the last list is asked for nothing; ahead of that, what deeds make of it must follow.
        for more in all_leadings(3):
            self.check(row, paper[:-1] + [paper[-1] + [more]], more != LEADING)
        self.check(row, [[one for one in numbers if numbers[one] <= many] for many in range(4)], True)
        for at in range(4):
            for more in all_leadings(3):
                other = paper[:at] + [paper[at] + [more]] + paper[at + 1:]
                self.check(row, other, is_shown(LEADING, MENU, row, other))

    def test_a_list_less_or_more(self):
        row, paper = self.right()
        for at in range(4):
            self.check(row, paper[:at] + paper[at + 1:], False)
            self.check(row, paper[:at] + [paper[at]] + paper[at:], False)
            self.check(row, paper[:at] + [[]] + paper[at:], False)
        self.check(row, paper + [[]], False)
        self.check(row, paper + [all_leadings(3)], False)
        self.check(row, [], False)

    def test_staying_missing(self):
        row, paper = self.right()
        self.check(row, [[]] + paper[1:], False)
        self.check(row, [[(1, 2, 0)]] + paper[1:], False)
        self.check(row, [[], [], [], []], False)
        self.check([("turn", 1)], [[]], False, (1, 0), [("turn", 1)])
        self.check([("turn", 1)], [[(0, 1)]], True, (1, 0), [("turn", 1)])

    def test_a_made_leading_missing(self):
        row, paper = self.right()
        for at in range(1, 4):
            for number in range(len(paper[at])):
                part = paper[at][:number] + paper[at][number + 1:]
                self.check(row, paper[:at] + [part] + paper[at + 1:], False)

    def test_the_leading_asked_within(self):
        row, paper = self.right()
        for at in range(4):
            self.check(row, paper[:at] + [paper[at] + [LEADING]] + paper[at + 1:], False)
        self.check(row, [all_leadings(3) for part in paper], False)

    def test_no_leadings_within(self):
        row, paper = self.right()
        for at in range(4):
            for thing in NO_LEADINGS:
                self.check(row, paper[:at] + [paper[at] + [thing]] + paper[at + 1:], False)
                self.check(row, paper[:at] + [[thing] + paper[at]] + paper[at + 1:], False)
                # In the first list's place, a tuple with staying in it is right.
                self.check(row, paper[:at] + [thing] + paper[at + 1:], at == 0 and thing == ((0, 1, 2),))

    def test_rows_of_other_deeds(self):
        row, paper = self.right()
        for at in range(4):
            for deed in all_deeds(3) + [None, True, 0, "turn", [], (), list(row[at]), ("turn", True), ("copy", True, 1),
                                        ("copy", 1, True), ("turn",), ("turn", 4), ("turn", 1, 1), (row[at],)]:
                other = row[:at] + [deed] + row[at + 1:]
                self.check(other, paper, is_shown(LEADING, MENU, other, paper))
        # Leads as a deed of the menu does, but is none of it.
        self.check([("swap", 1, 1)], [[(0, 1)]], False, (1, 0), [("turn", 1)])
        self.check([("turn", True)], [[(0, 1)]], False, (1, 0), [("turn", 1)])
        self.check([["turn", 1]], [[(0, 1)]], False, (1, 0), [("turn", 1)])

    def test_rows_that_lead_otherwise(self):
        row, paper = self.right()
        for other in itertools.product(MENU, repeat=4):
            self.check(list(other), paper, row_leading(3, other) == LEADING)

    def test_rows_that_are_too_long(self):
        row = fewest(LEADING, MENU)
        for longer in (row + [("copy", 1, 1)], row + [("turn", 1)] * 3, [("turn", 1)] * 3 + row):
            self.assertEqual(row_leading(3, longer), LEADING)
            for paper in (just_needed(LEADING, MENU, len(longer)), fewest_paper(LEADING, MENU) + [[]],
                          [[one for one in all_leadings(3) if one != LEADING] for deed in longer],
                          [[(0, 1, 2)]] * len(longer), [[]] * len(longer)):
                self.check(longer, paper, False)

    def test_a_row_without_deeds(self):
        staying = (0, 1, 2)
        for menu in ([], MENU, all_deeds(3)):
            for row in ([], ()):
                for paper in ([], ()):
                    self.check(row, paper, True, staying, menu)
                    self.check(row, paper, False, LEADING, menu)
                for paper in ([[]], [[staying]], ((),), "", None, 0, False, [None]):
                    self.check(row, paper, False, staying, menu)
        self.check([("turn", 1)] * 3, just_needed(staying, MENU, 3), False, staying)

    def test_no_menu(self):
        self.check([("turn", 1)], [[(0, 1)]], False, (1, 0), [])
        self.check([], [], False, (1, 0), [])

    def test_menus_with_deeds_twice(self):
        row, paper = self.right()
        self.check(row, paper, True, menu=MENU + MENU)
        self.check(row, paper, True, menu=MENU + [("turn", 1)] * 5)
        self.check(row, paper, False, menu=MENU + [("copy", 2, 1)])

    def test_what_is_told_of_drawn_menus_and_spoilt(self):
        draw = drawer(111)
        for width in (1, 2, 3):
            for turn in range(15):
                menu = draw.sample(all_deeds(width), draw.randrange(1, 8))
                leading = draw.choice(sorted(fewest_numbers(width, menu)))
                row, paper = fewest(leading, menu), fewest_paper(leading, menu)
                self.check(row, paper, True, leading, menu)
                for at, part in enumerate(paper):
                    other = paper[:at] + [part[1:]] + paper[at + 1:]
                    self.check(row, other, is_shown(leading, menu, row, other), leading, menu)
                    other = paper[:at] + [draw.sample(part, len(part) // 2 + 1)] + paper[at + 1:]
                    self.check(row, other, is_shown(leading, menu, row, other), leading, menu)

    def test_things_of_all_kinds(self):
        row, paper = self.right()
        for thing in ODD_THINGS + ([], (), [[]], [None] * 4, [0] * 4, "abcd", ["", "", "", ""], [[]] * 4, ((),) * 4):
            self.check(thing, paper, False)
            self.check(row, thing, False)
            self.check(thing, thing, False)
            self.check([], thing, thing in ([], ()), (0, 1, 2))
            self.check(thing, [], thing in ([], ()), (0, 1, 2))

    def test_what_is_handed_in_stays(self):
        row, paper = self.right()
        menu = list(MENU)
        before = list(row), [list(part) for part in paper]
        self.check(row, paper, True, menu=menu)
        self.check(row, paper + [[]], False, menu=menu)
        self.assertEqual((row, paper), before)
        self.assertEqual(menu, MENU)
        paper[0].clear()
        self.check(row, paper, False)


if __name__ == "__main__":
    unittest.main()
