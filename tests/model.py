"""Deeds as the document's words tell them, place by place, with no step of the program's own."""

from tests.drawing import bits_of, word_of

NAMES = ("and", "or", "left", "right", "turn", "swap", "gather", "strew", "copy")
MASK_NAMES = ("and", "or", "gather", "strew")
PAIR_NAMES = ("swap", "copy")


def places_of(mask):
    return [place for place, bit in enumerate(bits_of(mask, 64)) if bit == 1]


def may_stand(width, deed):
    # Of tuples with a word and whole numbers behind it, two or three parts as the word asks.
    name = deed[0]
    part = deed[1]
    if name in ("left", "right"):
        return part in range(width + 1)
    if name == "turn":
        return part in range(width)
    if part not in range(2 ** width):
        return False
    if name in MASK_NAMES:
        return True
    by = deed[2]
    places = places_of(part)
    if name == "swap":
        return by in range(1, width) and all(at + by < width and at + by not in places for at in places)
    return by in range(1 - width, width) and by != 0 and all(at + by in range(width) for at in places)


def bits_done(bits, deed):
    name = deed[0]
    width = len(bits)
    if name in ("left", "right", "turn"):
        return bits_moved(bits, name, deed[1])
    places = places_of(deed[1])
    if name == "and":
        return [bits[at] if at in places else 0 for at in range(width)]
    if name == "or":
        return [1 if at in places else bits[at] for at in range(width)]
    told = [0] * width if name in ("gather", "strew") else list(bits)
    for number, at in enumerate(places):
        if name == "gather":
            told[number] = bits[at]
        if name == "strew":
            told[at] = bits[number]
        if name == "copy":
            told[at + deed[2]] = bits[at]
        if name == "swap":
            told[at], told[at + deed[2]] = bits[at + deed[2]], bits[at]
    return told


def bits_moved(bits, name, by):
    width = len(bits)
    told = [0] * width
    for at in range(width):
        to = at - by if name == "right" else at + by
        if name == "turn" and to >= width:
            to = to - width
        if to in range(width):
            told[to] = bits[at]
    return told


def word_done(width, deed, word):
    return word_of(bits_done(bits_of(word, width), deed))


def all_of_small_numbers(width):
    # All tuples of the nine words with numbers somewhat beyond the bounds too, in the order told of all_deeds.
    parts = range(-2, 2 ** width + 3)
    bys = range(-width - 2, width + 3)
    deeds = []
    for name in NAMES:
        for part in parts:
            if name in PAIR_NAMES:
                deeds.extend((name, part, by) for by in bys)
            else:
                deeds.append((name, part))
    return deeds
