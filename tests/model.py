"""Deeds as the document's words tell them, place by place, with no step of the program's own."""

from tests.drawing import bits_of, word_of

NAMES = ("and", "or", "left", "right", "turn", "swap", "gather", "strew", "copy")
MASK_NAMES = ("and", "or", "gather", "strew")
PAIR_NAMES = ("swap", "copy")


def places_of(mask):
    return [place for place, bit in enumerate(bits_of(mask, 64)) if bit == 1]


def may_stand(width, deed):
    # Of tuples with a word and whole numbers behind it, two or three parts as the word asks.
    name = deed[0]
    part = deed[1]
    if name in ("left", "right"):
        return part in range(width + 1)
    if name == "turn":
        return part in range(width)
    if part not in range(2 ** width):
        return False
    if name in MASK_NAMES:
        return True
    by = deed[2]
    places = places_of(part)
    if name == "swap":
        return by in range(1, width) and all(at + by < width and at + by not in places for at in places)
    return by in range(1 - width, width) and by != 0 and all(at + by in range(width) for at in places)


def bits_done(bits, deed):
    name = deed[0]
    width = len(bits)
    if name in ("left", "right", "turn"):
        return bits_moved(bits, name, deed[1])
    places = places_of(deed[1])
    if name == "and":
        return [bits[at] if at in places else 0 for at in range(width)]
    if name == "or":
        return [1 if at in places else bits[at] for at in range(width)]
    told = [0] * width if name in ("gather", "strew") else list(bits)
    for number, at in enumerate(places):
        if name == "gather":
            told[number] = bits[at]
        if name == "strew":
            told[at] = bits[number]
        if name == "copy":
            told[at + deed[2]] = bits[at]
        if name == "swap":
            told[at], told[at + deed[2]] = bits[at + deed[2]], bits[at]
    return told


def bits_moved(bits, name, by):
    width = len(bits)
    told = [0] * width
    for at in range(width):
        to = at - by if name == "right" else at + by
        if name == "turn" and to >= width:
            to = to - width
        if to in range(width):
            told[to] = bits[at]
    return told


def word_done(width, deed, word):
    return word_of(bits_done(bits_of(word, width), deed))


def leading_of_row(width, row):
    # Which place a told bit comes from shows when that place alone holds the bit 1.
    def made_of(word):
        for deed in row:
            word = word_done(width, deed, word)
        return bits_of(word, width)

    entries = [-2 if bit == 1 else -1 for bit in made_of(0)]
    for source in range(width):
        for place, bit in enumerate(made_of(2 ** source)):
            if bit == 1 and entries[place] == -1:
                entries[place] = source
    return tuple(entries)


def led_by_places(leading, word):
    bits = bits_of(word, len(leading))
    return word_of([{-1: 0, -2: 1}[entry] if entry < 0 else bits[entry] for entry in leading])


def is_number(thing, many):
    return type(thing) is int and thing in range(many)


def is_paper(leading, thing):
    width = len(leading)
    half = width // 2
    if type(thing) is not tuple:
        return False
    if width == 1:
        return thing == ()
    if len(thing) != 4 or not all(is_number(mask, 2 ** half) for mask in thing[:2]):
        return False
    if not all(is_half(half, part) for part in thing[2:]):
        return False
    return halves_led(thing) == leading and all(is_paper(part[0], part[1]) for part in thing[2:])


def is_half(half, part):
    if type(part) is not tuple or len(part) != 2 or type(part[0]) is not tuple or len(part[0]) != half:
        return False
    return all(is_number(entry, half) for entry in part[0]) and len(set(part[0])) == half


def halves_led(paper):
    lower, upper = paper[2][0], paper[3][0]
    half = len(lower)
    bits = bits_done(list(range(2 * half)), ("swap", paper[0], half))
    bits = [bits[place] for place in lower] + [bits[half + place] for place in upper]
    return tuple(bits_done(bits, ("swap", paper[1], half)))


def all_of_small_numbers(width):
    # All tuples of the nine words with numbers somewhat beyond the bounds too, in the order told of all_deeds.
    parts = range(-2, 2 ** width + 3)
    bys = range(-width - 2, width + 3)
    deeds = []
    for name in NAMES:
        for part in parts:
            if name in PAIR_NAMES:
                deeds.extend((name, part, by) for by in bys)
            else:
                deeds.append((name, part))
    return deeds


def mask_from(places):
    return sum(2 ** place for place in set(places))


def both_as_one(width, one, other):
    # The deed that two deeds go together as, None where they don't.
    names = (one[0], other[0])
    if names in (("left", "left"), ("right", "right")):
        return (one[0], width if one[1] + other[1] > width else one[1] + other[1])
    if names == ("turn", "turn"):
        return ("turn", one[1] + other[1] - (width if one[1] + other[1] >= width else 0))
    here, there = places_of(one[1]), places_of(other[1])
    if names == ("and", "and"):
        return ("and", mask_from(at for at in here if at in there))
    if names == ("or", "or"):
        return ("or", mask_from(here + there))
    if names == ("swap", "swap") and one[2] == other[2]:
        if may_stand(width, ("swap", mask_from(here + there), one[2])):
            return ("swap", mask_from(at for at in here + there if (at in here) != (at in there)), one[2])
    if names == ("gather", "strew") and here == there:
        return ("and", mask_from(here))
    if names == ("strew", "gather") and here == there:
        return ("and", mask_from(range(len(here))))
    if names == ("gather", "gather"):
        return ("gather", mask_from(here[at] for at in there if at < len(here)))
    if names == ("strew", "strew"):
        return ("strew", mask_from(there[at] for at in here if at < len(there)))
    return None


def one_behind_other(one, other):
    return tuple(entry if entry < 0 else one[entry] for entry in other)


def fewest_numbers(width, menu):
    # All leadings of rows of just so many deeds, number by number, until a number brings no new one.
    steps = {leading_of_row(width, [deed]) for deed in menu}
    numbers = {tuple(range(width)): 0}
    many = 0
    last = {tuple(range(width))}
    while last:
        many += 1
        last = {one_behind_other(leading, step) for leading in last for step in steps} - set(numbers)
        numbers.update((leading, many) for leading in last)
    return numbers


def is_of_width(width, thing):
    if type(thing) is not tuple or len(thing) != width:
        return False
    return all(type(entry) is int and entry in range(-2, width) for entry in thing)


def is_shown(leading, menu, row, paper):
    width = len(leading)
    if type(row) not in (list, tuple) or type(paper) not in (list, tuple) or len(row) != len(paper):
        return False
    # Told as texts, True is no 1.
    if not all(repr(deed) in [repr(other) for other in menu] for deed in row):
        return False
    if leading_of_row(width, row) != leading:
        return False
    for part in paper:
        if type(part) not in (list, tuple) or not all(is_of_width(width, thing) for thing in part):
            return False
        if leading in part:
            return False
    if len(paper) > 0 and tuple(range(width)) not in paper[0]:
        return False
    steps = [leading_of_row(width, [deed]) for deed in menu]
    return all(one_behind_other(ahead, step) in paper[number + 1]
               for number in range(len(paper) - 1) for ahead in paper[number] for step in steps)
