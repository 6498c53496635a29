"""Drawn words and leadings, the same in every run, and things of all kinds."""

import random

WIDTHS = (1, 2, 3, 8, 33, 64)

# Things that are no leading, no deed and no row of any width (a row of no deeds is left out).
ODD_THINGS = (
    None, True, False, 0, 1, -1, -2, 7, 2 ** 70, -(2 ** 70), "", "and", "0", "abc",
    [None], [[]], [()], [0], [0, 1], [True], ["and", 1], (None,), ((),), ([],), ("",), ("0",), (True,), (False,),
    ((0,),), ([0],), ("and",), ("and", None), (None, None), ("and", "and"), (["and"], 1), (("and",), 1), ("AND", 1),
    ("", 0), ("nothing", 1), (True, True), (1, "and"), ("and", 1, 1, 1), [[["and"]]], (((((),),),),),
)


def drawer(seed):
    return random.Random(seed)


def drawn_word(draw, width):
    return draw.randrange(2 ** width)


def some_words(draw, width):
    every_second = sum(2 ** place for place in range(0, width, 2))
    ends = [0, 2 ** width - 1, 1, 2 ** (width - 1), every_second, 2 ** width - 1 - every_second]
    return ends + [drawn_word(draw, width) for turn in range(8)]


def drawn_leading(draw, width):
    return tuple(draw.randrange(-2, width) for place in range(width))


def drawn_even(draw, width):
    places = list(range(width))
    draw.shuffle(places)
    return tuple(places)


def bits_of(word, width):
    # By halving alone, so that it shares no step with the program.
    bits = []
    for place in range(width):
        bits.append(word % 2)
        word = word // 2
    return bits


def word_of(bits):
    return sum(bit * 2 ** place for place, bit in enumerate(bits))
