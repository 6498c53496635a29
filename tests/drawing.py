"""Drawn words and leadings, the same in every run, and things of all kinds."""

import itertools
import random

WIDTHS = (1, 2, 3, 8, 33, 64)
HALVED = (1, 2, 4, 8, 16, 32, 64)
UNHALVED = tuple(width for width in range(1, 65) if width not in HALVED)

# Things that are no leading, no deed and no row of any width (a row of no deeds is left out).
ODD_THINGS = (
    None, True, False, 0, 1, -1, -2, 7, 2 ** 70, -(2 ** 70), "", "and", "0", "abc",
    [None], [[]], [()], [0], [0, 1], [True], ["and", 1], (None,), ((),), ([],), ("",), ("0",), (True,), (False,),
    ((0,),), ([0],), ("and",), ("and", None), (None, None), ("and", "and"), (["and"], 1), (("and",), 1), ("AND", 1),
    ("", 0), ("nothing", 1), (True, True), (1, "and"), ("and", 1, 1, 1), [[["and"]]], (((((),),),),),
)


def drawer(seed):
    return random.Random(seed)


def drawn_word(draw, width):
    return draw.randrange(2 ** width)


def some_words(draw, width):
    every_second = sum(2 ** place for place in range(0, width, 2))
    ends = [0, 2 ** width - 1, 1, 2 ** (width - 1), every_second, 2 ** width - 1 - every_second]
    return ends + [drawn_word(draw, width) for turn in range(8)]


def all_leadings(width):
    return list(itertools.product(range(-2, width), repeat=width))


def drawn_leading(draw, width):
    return tuple(draw.randrange(-2, width) for place in range(width))


def drawn_even(draw, width):
    places = list(range(width))
    draw.shuffle(places)
    return tuple(places)


def some_evens(draw, width):
    staying = tuple(range(width))
    half = width // 2
    evens = [staying, staying[::-1], staying[1:] + staying[:1], staying[half:] + staying[:half]]
    evens.append(staying[::2] + staying[1::2])
    return evens + [drawn_even(draw, width) for turn in range(12)]


def some_unevens(draw, width):
    # A bit copied over another one, a bit set to 0, a bit set to 1, and all bits so.
    unevens = [(-1,) * width, (-2,) * width]
    for turn in range(4):
        even = drawn_even(draw, width)
        at = draw.randrange(width)
        others = (-1, -2) if width == 1 else (-1, -2, even[at - 1])
        unevens += [even[:at] + (other,) + even[at + 1:] for other in others]
    return unevens + ([(0,) * width, (width - 1,) * width] if width > 1 else [])


def bits_of(word, width):
    # By halving alone, so that it shares no step with the program.
    bits = []
    for place in range(width):
        bits.append(word % 2)
        word = word // 2
    return bits


def word_of(bits):
    return sum(bit * 2 ** place for place, bit in enumerate(bits))


def drawn_swap(draw, width):
    by = draw.randrange(1, width)
    mask = 0
    for place in range(width - by):
        meets = place >= by and mask // 2 ** (place - by) % 2 == 1
        if not meets and draw.random() < 0.5:
            mask += 2 ** place
    return ("swap", mask, by)


def drawn_copy(draw, width):
    by = draw.choice([by for by in range(1 - width, width) if by != 0])
    places = [place for place in range(width) if place + by in range(width) and draw.random() < 0.5]
    return ("copy", sum(2 ** place for place in places), by)


def drawn_deed(draw, width, name):
    if name in ("left", "right"):
        return (name, draw.randrange(width + 1))
    if name == "turn":
        return (name, draw.randrange(width))
    if name == "swap":
        return drawn_swap(draw, width)
    if name == "copy":
        return drawn_copy(draw, width)
    return (name, drawn_word(draw, width))


def some_deeds(draw, width):
    masks = some_words(draw, width)
    deeds = [(name, mask) for name in ("and", "or", "gather", "strew") for mask in masks]
    deeds += [(name, by) for name in ("left", "right") for by in range(width + 1)]
    deeds += [("turn", by) for by in range(width)]
    for by in range(1, width):
        deeds += whole_pair_deeds(width, by)
        deeds += [drawn_swap(draw, width), drawn_copy(draw, width)]
    return deeds


def whole_pair_deeds(width, by):
    # No place, one place at either end, and all that may stand.
    room = 2 ** (width - by) - 1
    swaps = {0, 1, 2 ** (width - by - 1), sum(2 ** place for place in range(width - by) if place // by % 2 == 0)}
    copies = {0, 1, 2 ** (width - by - 1), room}
    deeds = [("swap", mask, by) for mask in sorted(swaps)]
    deeds += [("copy", mask, by) for mask in sorted(copies)]
    return deeds + [("copy", mask * 2 ** by, -by) for mask in sorted(copies)]


def drawn_row(draw, width, many):
    names = ["and", "or", "left", "right", "turn", "gather", "strew"] + (["swap", "copy"] if width > 1 else [])
    return [drawn_deed(draw, width, draw.choice(names)) for turn in range(many)]
