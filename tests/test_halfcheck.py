import itertools
import unittest

from bitlead.halfcheck import shows_halves
from bitlead.halving import halves
from tests.drawing import HALVED, ODD_THINGS, drawer, drawn_even, some_evens
from tests.model import is_paper

PART = ((0,), ())
PAPERS_OF_2 = [(first, last, PART, PART) for first in (0, 1) for last in (0, 1)]
OTHER_PARTS = (True, False, None, "", "0", "abc", 0, 1, 2, 3, -1, 2 ** 32, 2 ** 64, 2 ** 70, (), [], (0,), (1, 0),
               ((0,), ()), (0, 0, PART, PART), (1, 0, PART, PART), ((0, 1), (0, 0, PART, PART)))


def evens_of(width):
    return list(itertools.permutations(range(width)))


def ways_into(thing):
    # Each part of a thing by the numbers that lead to it, the thing itself first.
    ways = [()]
    if type(thing) is tuple:
        for at, part in enumerate(thing):
            ways += [(at,) + way for way in ways_into(part)]
    return ways


def part_at(thing, way):
    for at in way:
        thing = thing[at]
    return thing


def with_part(thing, way, part):
    if way == ():
        return part
    at = way[0]
    return thing[:at] + (with_part(thing[at], way[1:], part),) + thing[at + 1:]


def spoilt_parts(part):
    if type(part) is int:
        return [part + 1, part - 1, part ^ 1, part ^ 2, -part, str(part), bool(part), (part,), [part]]
    spoilt = [list(part), part + (0,), part + (None,), part + ((),), (0,) + part, (part,), [part], part[::-1]]
    spoilt += [part[:at] + part[at + 1:] for at in range(len(part))]
    return spoilt + [part + part[at:at + 1] for at in range(len(part))]


def other_way_round(paper):
    # All bits through the other half: each pair of places exchanged where it was not, and the halves too.
    if paper == ():
        return ()
    first, last, lower, upper = paper
    every = 2 ** len(lower[0]) - 1
    return (every - first, every - last, (upper[0], other_way_round(upper[1])), (lower[0], other_way_round(lower[1])))


class ShowsHalves(unittest.TestCase):
    def check(self, leading, paper, asked):
        self.assertIs(shows_halves(leading, paper), asked, (leading, paper))

    def test_width_1(self):
        self.check((0,), (), True)
        for thing in ([], "", None, 0, False, (0,), ((),), PART, (0, 0, PART, PART)):
            self.check((0,), thing, False)

    def test_width_2(self):
        for first, last, lower, upper in PAPERS_OF_2:
            paper = (first, last, lower, upper)
            self.check((0, 1), paper, first == last)
            self.check((1, 0), paper, first != last)

    def test_every_paper_of_width_4(self):
        parts = [(leading, paper) for leading in evens_of(2) for paper in PAPERS_OF_2]
        shown = 0
        for first, last in itertools.product(range(5), repeat=2):
            for lower, upper in itertools.product(parts, repeat=2):
                paper = (first, last, lower, upper)
                for leading in evens_of(4):
                    asked = is_paper(leading, paper)
                    shown += asked
                    self.check(leading, paper, asked)
        # Every choice of masks and of right papers within is right for just one leading.
        self.assertEqual(shown, 16 * 4 * 4)

    def test_told_papers_of_all_widths(self):
        draw = drawer(80)
        for width in HALVED:
            for leading in some_evens(draw, width):
                self.check(leading, halves(leading), True)

    def test_another_right_paper(self):
        draw = drawer(81)
        for width in HALVED[1:]:
            for leading in some_evens(draw, width):
                other = other_way_round(halves(leading))
                self.assertNotEqual(other, halves(leading))
                self.check(leading, other, True)

    def test_another_leadings_paper(self):
        draw = drawer(82)
        for width in HALVED[2:]:
            for turn in range(10):
                one, other = drawn_even(draw, width), drawn_even(draw, width)
                self.check(one, halves(other), one == other)
        self.check((1, 0, 2, 3), halves((0, 1)), False)
        self.check((0, 1), halves((0, 1, 2, 3)), False)
        self.check((0,), halves((0, 1)), False)
        self.check((0, 1), halves((0,)), False)

    def test_each_part_spoilt(self):
        draw = drawer(83)
        for width in (1, 2, 4, 8):
            for leading in some_evens(draw, width)[:8]:
                paper = halves(leading)
                for way in ways_into(paper):
                    for part in spoilt_parts(part_at(paper, way)) + list(OTHER_PARTS):
                        spoilt = with_part(paper, way, part)
                        self.check(leading, spoilt, is_paper(leading, spoilt))

    def test_some_parts_of_wide_ones_spoilt(self):
        draw = drawer(84)
        for width in (16, 32, 64):
            leading = drawn_even(draw, width)
            paper = halves(leading)
            for way in draw.sample(ways_into(paper), 60):
                for part in spoilt_parts(part_at(paper, way)) + list(OTHER_PARTS):
                    spoilt = with_part(paper, way, part)
                    self.check(leading, spoilt, is_paper(leading, spoilt))

    def test_masks_beyond_half_the_places(self):
        draw = drawer(85)
        for width in HALVED[1:]:
            leading = drawn_even(draw, width)
            paper = halves(leading)
            for at in (0, 1):
                for more in (2 ** (width // 2), 2 ** width, 2 ** 64, -(2 ** (width // 2))):
                    self.check(leading, with_part(paper, (at,), paper[at] + more), False)

    def test_a_mask_with_a_place_more_or_less(self):
        draw = drawer(86)
        for width in HALVED[1:]:
            leading = drawn_even(draw, width)
            paper = halves(leading)
            for at in (0, 1):
                for place in range(width // 2):
                    self.check(leading, with_part(paper, (at,), paper[at] ^ 2 ** place), False)

    def test_leadings_within_not_even_or_of_another_width(self):
        leading = (1, 0, 3, 2)
        within = ((0,), (0, 1, 2), (0, 1, 2, 3), (0, 0), (1, 1), (-1, 1), (0, -1), (-2, 0), (0, 2), (False, True),
                  (0, True), ("0", "1"), (None, 1), [0, 1], [1, 0], (), ((0, 1),))
        paper = halves(leading)
        for at in (2, 3):
            for other in within:
                self.check(leading, with_part(paper, (at, 0), other), False)

    def test_a_paper_deep_within_spoilt(self):
        draw = drawer(87)
        for width in HALVED[2:]:
            leading = drawn_even(draw, width)
            paper = halves(leading)
            half = width // 2
            way = ()
            while half > 1:
                way += (draw.choice((2, 3)), 1)
                half = half // 2
            first = part_at(paper, way + (0,))
            self.check(leading, with_part(paper, way + (0,), 1 - first), False)
            self.check(leading, with_part(paper, way + (0,), bool(first)), False)
            self.check(leading, with_part(paper, way + (2, 1), []), False)
            self.check(leading, with_part(paper, way + (2, 1), None), False)
            self.check(leading, with_part(paper, way + (2, 0), (1,)), False)

    def test_things_of_all_kinds(self):
        draw = drawer(88)
        for width in HALVED:
            leading = drawn_even(draw, width)
            for thing in ODD_THINGS + ([], (), "    ", (None,) * 4, (0, 0, (), ()), (0, 0, None, None)):
                self.check(leading, thing, is_paper(leading, thing))
            for thing in ([0, 0, PART, PART], [0, 0, [[0], []], [[0], []]], (0, 0, [PART], [PART])):
                self.check(leading, thing, is_paper(leading, thing))

    def test_a_thing_nested_deeply(self):
        thing = ()
        for turn in range(20000):
            thing = (0, 0, thing, thing) if turn % 2 == 0 else ((0, 1), thing)
        self.check((0, 1, 2, 3), thing, False)
        self.check((0, 1, 2, 3), (0, 0, thing, thing), False)

    def test_what_is_handed_in_stays(self):
        inner = [0]
        paper = (0, 0, (inner, ()), PART)
        self.check((0, 1), paper, False)
        self.assertEqual(paper, (0, 0, ([0], ()), ((0,), ())))


if __name__ == "__main__":
    unittest.main()
