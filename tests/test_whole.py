"""What is promised over the whole program: that the interface is there, and how things are handed in and told."""

import copy
import importlib
import inspect
import unittest

from bitlead import errors
from bitlead.anyrow import any_row
from bitlead.fewest import fewest, fewest_paper
from bitlead.halving import even_row, halves
from bitlead.leadings import led, then, turned_back
from bitlead.many import packed, sliced, slices_led, unpacked, unsliced
from bitlead.onedeed import one_deed
from bitlead.rows import all_deeds, is_row, row_done, row_leading
from bitlead.sheet import run
from bitlead.shorter import bound, is_short, shortened
from bitlead.undoing import same_rows, undone
from bitlead.wider import lanes, wider_row
from tests.drawing import drawer, drawn_even, drawn_leading, drawn_row, drawn_word
from tests.model import led_by_places

# By files: each function with its arguments, in order.
INTERFACE = {
    "words": "places_in(mask) mask_of(places) full(width) low(many) bits_in(mask)",
    "leadings": "is_leading(thing) led(leading,word) staying(width) then(one,other) kept_by(leading) is_even(leading) "
                "turned_back(leading)",
    "deeds": "is_deed(width,thing) done(width,deed,word) deed_leading(width,deed)",
    "rows": "is_row(width,thing) row_done(width,row,word) row_leading(width,row) all_deeds(width)",
    "onedeed": "one_deed(leading)",
    "gathering": "gathered(word,mask) strewn(word,mask)",
    "gatherrows": "gather_row(width,mask) strew_row(width,mask)",
    "halving": "even_row(leading) halves(leading)",
    "halfcheck": "shows_halves(leading,paper)",
    "anyrow": "any_row(leading) deeds_for(width)",
    "fewest": "fewest(leading,menu) how_few(leading,menu) reach(width,menu) fewest_paper(leading,menu)",
    "fewcheck": "shows_fewest(leading,menu,row,paper)",
    "shorter": "together(width,one,other) does_nothing(width,deed) shortened(width,row) is_short(width,row) "
               "bound(width,rows)",
    "undoing": "undone(width,row) back(leading,mask) unlike_words(one,other) same_rows(width,one,other)",
    "tables": "mirrored(width) woven(width) unwoven(width) square(n) square_turned(n) square_mirrored(n)",
    "tablerows": "mirror_row(width) weave_row(width) square_row(n) square_turn_row(n)",
    "wider": "lifted(leading,at,wide) beside(leadings) lanes(leading,many) wider_row(width,row,wide)",
    "many": "packed(words,width) unpacked(word,width,many) sliced(words,width) unsliced(slices,many) "
            "slices_led(leading,slices,many)",
    "sheet": "run(text)",
}

MENU = [("turn", 1), ("copy", 1, 1), ("or", 4)]
ROW = [("turn", 3), ("swap", 5, 1), ("or", 0)]
LEADING = (3, 3, -1, -2)
EVEN = (2, 0, 3, 1)
SHEET = "width 3\nlead a 1 0 -\nrow b turn 1 / left 1\nword a 011\nsame a b\nundo b\nfew a"

# Questions with the kind that is told: each function of the interface at least once.
QUESTIONS = {
    list: [
        ("words", "places_in", 13), ("words", "places_in", 0), ("rows", "all_deeds", 2),
        ("gatherrows", "gather_row", 8, 77), ("gatherrows", "strew_row", 8, 77), ("gatherrows", "gather_row", 1, 1),
        ("halving", "even_row", EVEN),
        ("halving", "even_row", (0,)), ("anyrow", "any_row", LEADING), ("fewest", "fewest", (0, 0, 0), MENU),
        ("fewest", "fewest", (0, 1, 2), MENU), ("fewest", "reach", 3, MENU), ("fewest", "reach", 3, []),
        ("fewest", "fewest_paper", (0, 0, 0), MENU), ("fewest", "fewest_paper", (0, 1, 2), MENU),
        ("shorter", "shortened", 8, ROW), ("shorter", "shortened", 8, []), ("shorter", "bound", 8, [ROW, [], ROW[1:]]),
        ("shorter", "bound", 8, [ROW[:1]]), ("undoing", "undone", 8, ROW), ("undoing", "undone", 8, []),
        ("tablerows", "mirror_row", 8), ("tablerows", "weave_row", 8), ("tablerows", "weave_row", 2),
        ("tablerows", "square_row", 4), ("tablerows", "square_turn_row", 4), ("tablerows", "square_row", 1),
        ("wider", "wider_row", 8, ROW, 16), ("wider", "wider_row", 8, [], 16), ("many", "unpacked", 1234, 4, 3),
        ("many", "sliced", [1, 2, 3], 2), ("many", "sliced", [1, 2], 2), ("many", "unsliced", [5, 6], 3),
        ("many", "slices_led", (0, 1), [5, 6], 3), ("many", "slices_led", (-1, -2), [5, 6], 3), ("sheet", "run", SHEET),
        ("sheet", "run", "width 1"),
    ],
    tuple: [
        ("leadings", "staying", 5), ("leadings", "then", EVEN, LEADING), ("leadings", "turned_back", EVEN),
        ("deeds", "deed_leading", 4, ("copy", 3, 1)), ("deeds", "deed_leading", 4, ("gather", 10)),
        ("rows", "row_leading", 8, ROW), ("rows", "row_leading", 8, []), ("onedeed", "one_deed", (1, 0)),
        ("halving", "halves", EVEN), ("halving", "halves", (0,)), ("shorter", "together", 8, ("left", 1), ("left", 2)),
        ("undoing", "back", LEADING, 8), ("tables", "mirrored", 5), ("tables", "woven", 6), ("tables", "unwoven", 6),
        ("tables", "square", 3), ("tables", "square_turned", 3), ("tables", "square_mirrored", 3),
        ("wider", "lifted", LEADING, 2, 9), ("wider", "beside", [EVEN, LEADING, (0,)]), ("wider", "lanes", LEADING, 3),
    ],
    int: [
        ("words", "mask_of", [3, 0, 3]), ("words", "mask_of", []), ("words", "full", 64), ("words", "low", 0),
        ("words", "bits_in", 13), ("leadings", "led", LEADING, 9), ("leadings", "kept_by", LEADING),
        ("deeds", "done", 8, ("turn", 3), 178), ("rows", "row_done", 8, ROW, 200), ("gathering", "gathered", 178, 240),
        ("gathering", "strewn", 11, 240), ("anyrow", "deeds_for", 64), ("fewest", "how_few", (0, 0, 0), MENU),
        ("undoing", "unlike_words", EVEN, LEADING), ("many", "packed", [1, 2, 3], 4), ("many", "packed", [], 4),
    ],
    bool: [
        ("leadings", "is_leading", LEADING), ("leadings", "is_leading", [0]), ("leadings", "is_even", EVEN),
        ("leadings", "is_even", LEADING), ("deeds", "is_deed", 8, ("turn", 3)), ("deeds", "is_deed", 8, ["turn", 3]),
        ("rows", "is_row", 8, ROW), ("rows", "is_row", 8, [ROW]), ("halfcheck", "shows_halves", (0,), ()),
        ("halfcheck", "shows_halves", (1, 0), (1, 0, ((0,), ()), ((0,), ()))), ("halfcheck", "shows_halves", (0,), []),
        ("fewcheck", "shows_fewest", (2, 0, 1), MENU, MENU[:1], [[(0, 1, 2)]]),
        ("fewcheck", "shows_fewest", (2, 0, 1), MENU, MENU[:1], [[]]), ("shorter", "does_nothing", 8, ("or", 0)),
        ("shorter", "does_nothing", 8, ("or", 1)), ("shorter", "is_short", 8, ROW), ("shorter", "is_short", 8, []),
        ("undoing", "same_rows", 8, ROW, ROW), ("undoing", "same_rows", 8, ROW, []),
    ],
    None: [
        ("onedeed", "one_deed", (-1, -2)), ("fewest", "fewest", (-1, 0, 1), MENU),
        ("fewest", "how_few", (-1, 0, 1), MENU), ("fewest", "fewest_paper", (-1, 0, 1), MENU),
        ("shorter", "together", 8, ("left", 1), ("right", 1)), ("undoing", "unlike_words", EVEN, EVEN),
    ],
}

# Refused questions: the class, its field and what that tells.
REFUSALS = [
    ("leadings", "turned_back", [LEADING], "Uneven", None, None),
    ("halving", "even_row", [LEADING], "Uneven", None, None), ("halving", "halves", [LEADING], "Uneven", None, None),
    ("halving", "even_row", [(0, 1, 2)], "Unhalved", None, None),
    ("halving", "halves", [(0, 0, 0)], "Unhalved", None, None),
    ("halving", "even_row", [(0, 0, 0)], "Unhalved", None, None),
    ("anyrow", "any_row", [(0, 0, 0)], "Unhalved", None, None),
    ("anyrow", "deeds_for", [3], "Unhalved", None, None), ("tablerows", "mirror_row", [3], "Unhalved", None, None),
    ("tablerows", "weave_row", [1], "Unhalved", None, None), ("tablerows", "square_row", [3], "Unhalved", None, None),
    ("tablerows", "square_turn_row", [16], "Unhalved", None, None),
    ("undoing", "undone", [8, ROW + [("left", 1), ("and", 1)]], "Lost", "place", 3),
    ("undoing", "back", [LEADING, 15], "Lost", "place", 0), ("undoing", "back", [LEADING, 12], "Lost", "place", 2),
    ("sheet", "run", ["width 3\n\nlead a 0\nlead"], "BadRow", "row", 2), ("sheet", "run", ["\n"], "BadRow", "row", 2),
]


def function_of(file, name):
    return getattr(importlib.import_module(f"bitlead.{file}"), name)


def own_copies(handed):
    # Each by itself: a list that is handed in twice is to be two lists.
    return [copy.deepcopy(part) for part in handed]


def lists_in(thing):
    found = [thing] if type(thing) is list else []
    for part in thing if type(thing) in (list, tuple) else ():
        found += lists_in(part)
    return found


def all_as_tuples(thing):
    return tuple(all_as_tuples(part) for part in thing) if type(thing) in (list, tuple) else thing


def is_plain(thing, within_tuple):
    if type(thing) is list:
        return not within_tuple and all(is_plain(part, False) for part in thing)
    if type(thing) is tuple:
        return all(is_plain(part, True) for part in thing)
    return type(thing) in (int, str)


class Interface(unittest.TestCase):
    def test_every_function_with_its_arguments(self):
        for file, functions in INTERFACE.items():
            for asked in functions.split():
                name, arguments = asked[:-1].split("(")
                function = function_of(file, name)
                self.assertEqual(",".join(inspect.signature(function).parameters), arguments, asked)
                self.assertEqual(function.__module__, f"bitlead.{file}")

    def test_each_is_asked_below(self):
        there = {(file, part.split("(")[0]) for file, functions in INTERFACE.items() for part in functions.split()}
        self.assertEqual({question[:2] for part in QUESTIONS.values() for question in part}, there)

    def test_error_classes(self):
        own = [thing for thing in vars(errors).values() if inspect.isclass(thing)]
        self.assertEqual(sorted(thing.__name__ for thing in own), ["BadRow", "LeadError", "Lost", "Uneven", "Unhalved"])
        for thing in own:
            asked = ValueError if thing is errors.LeadError else errors.LeadError
            self.assertEqual(thing.__bases__, (asked,))


class Told(unittest.TestCase):
    def each_question(self):
        for kind, questions in QUESTIONS.items():
            for question in questions:
                yield kind, question, function_of(question[0], question[1]), own_copies(question[2:])

    def test_kinds(self):
        for kind, question, function, handed in self.each_question():
            told = function(*handed)
            self.assertIs(type(told), type(None) if kind is None else kind, question)
            if kind in (list, tuple, int):
                self.assertTrue(is_plain(told, False), (question, told))

    def test_what_is_handed_in_stays(self):
        for kind, question, function, handed in self.each_question():
            function(*handed)
            self.assertEqual(repr(handed), repr(list(question[2:])), question)

    def test_what_is_handed_in_is_not_kept(self):
        for kind, question, function, handed in self.each_question():
            told = function(*handed)
            first = repr(told)
            for part in lists_in(handed):
                part.clear()
            self.assertEqual(repr(told), first, question)
            self.assertEqual(repr(function(*own_copies(question[2:]))), first, question)

    def test_the_same_question_is_told_the_same(self):
        for kind, question, function, handed in self.each_question():
            self.assertEqual(repr(function(*handed)), repr(function(*handed)), question)

    def test_no_list_is_told_twice_or_handed_back(self):
        for kind, question, function, handed in self.each_question():
            told = [function(*handed), function(*handed), function(*handed)]
            lists = lists_in(told[0]) + lists_in(told[1]) + lists_in(told[2]) + lists_in(handed)
            self.assertEqual(len({id(part) for part in lists}), len(lists), question)

    def test_changing_what_is_told_changes_nothing_else(self):
        for kind, question, function, handed in self.each_question():
            told = function(*handed)
            first = repr(told)
            for part in lists_in(told):
                part.append("changed")
            self.assertEqual(repr(handed), repr(list(question[2:])), question)
            self.assertEqual(repr(function(*handed)), first, question)

    def test_where_a_list_is_handed_in_a_tuple_is_the_same(self):
        for kind, question, function, handed in self.each_question():
            if question[1] in ("is_leading", "is_deed", "is_row", "shows_halves"):
                continue
            tuples = [all_as_tuples(part) for part in handed]
            self.assertEqual(repr(function(*tuples)), repr(function(*handed)), question)

    def test_refusals(self):
        for file, name, handed, error, field, asked in REFUSALS:
            before = repr(handed)
            for turn in range(2):
                with self.assertRaises(errors.LeadError) as caught:
                    function_of(file, name)(*handed)
                self.assertIs(type(caught.exception), getattr(errors, error), (name, handed))
                if field is not None:
                    self.assertEqual(getattr(caught.exception, field), asked, (name, handed))
                self.assertEqual(repr(handed), before)


class AllTogether(unittest.TestCase):
    # What was told may be handed in again: the functions of all files, one behind the other.
    def test_any_leading_by_rows_made_short_and_wide(self):
        draw = drawer(210)
        for width in (1, 2, 4, 8, 16, 32):
            for turn in range(4):
                leading = drawn_leading(draw, width)
                row = shortened(width, any_row(leading))
                self.assertEqual(row_leading(width, row), leading)
                self.assertIs(is_short(width, row), True)
                wide = wider_row(width, row, 2 * width)
                self.assertIs(is_row(2 * width, wide), True)
                for time in range(4):
                    word = drawn_word(draw, width)
                    self.assertEqual(row_done(2 * width, wide, word), led_by_places(leading, word))

    def test_even_leadings_there_and_back(self):
        draw = drawer(211)
        for width in (1, 2, 4, 8, 16, 32, 64):
            leading = drawn_even(draw, width)
            row = even_row(leading)
            there_and_back = row + undone(width, row)
            self.assertEqual(row_leading(width, undone(width, row)), turned_back(leading))
            self.assertIs(same_rows(width, there_and_back, []), True)
            self.assertEqual(bound(width, [row, undone(width, row)]), [])
            self.assertEqual(halves(leading), halves(row_leading(width, row)))

    def test_many_words_by_three_ways(self):
        draw = drawer(212)
        for width, many in ((1, 64), (2, 5), (8, 8), (21, 3), (64, 1)):
            leading = drawn_leading(draw, width)
            words = [drawn_word(draw, width) for turn in range(many)]
            asked = [led(leading, word) for word in words]
            self.assertEqual(unpacked(led(lanes(leading, many), packed(words, width)), width, many), asked)
            self.assertEqual(unsliced(slices_led(leading, sliced(words, width), many), many), asked)

    def test_one_deed_is_the_fewest(self):
        deeds = all_deeds(3)
        for deed in deeds:
            leading = row_leading(3, [deed])
            row = fewest(leading, deeds)
            self.assertLessEqual(len(row), 1)
            self.assertEqual(len(fewest_paper(leading, deeds)), len(row))
            self.assertEqual(row_leading(3, [one_deed(leading)]), leading)

    def test_rows_behind_one_another(self):
        draw = drawer(213)
        for width in (1, 2, 3, 8, 33, 64):
            rows = [drawn_row(draw, width, 4) for turn in range(3)]
            leading = then(then(row_leading(width, rows[0]), row_leading(width, rows[1])), row_leading(width, rows[2]))
            self.assertEqual(row_leading(width, bound(width, rows)), leading)

    def test_sheets_keep_nothing(self):
        self.assertEqual(run("width 2\nlead a 1 0\nleads a"), ["1 0"])
        with self.assertRaises(errors.BadRow):
            run("width 2\nleads a")
        self.assertEqual(run("width 2\nlead a 0 1\nleads a"), ["0 1"])


if __name__ == "__main__":
    unittest.main()
