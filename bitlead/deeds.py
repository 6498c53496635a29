"""Deeds: the nine ways in which the bits of a word are led by numbers alone."""

from bitlead.gathering import gathered, strewn
from bitlead.kinds import is_within
from bitlead.leadings import NOUGHT, ONE
from bitlead.words import bit_at, full, places_in


def is_deed(width, thing):
    if not isinstance(thing, tuple):
        return False
    if len(thing) == 2:
        return fits_with_one(width, thing[0], thing[1])
    if len(thing) == 3:
        return fits_with_two(width, thing[0], thing[1], thing[2])
    return False


def fits_with_one(width, name, part):
    if name in ("and", "or", "gather", "strew"):
        return is_within(part, 0, full(width))
    if name in ("left", "right"):
        return is_within(part, 0, width)
    return name == "turn" and is_within(part, 0, width - 1)


def fits_with_two(width, name, mask, by):
    if not is_within(mask, 0, full(width)):
        return False
    if name == "swap":
        return is_within(by, 1, width - 1) and swaps_apart(width, mask, by)
    if name == "copy":
        return is_within(by, 1 - width, width - 1) and by != 0 and goes_within(width, mask, by)
    return False


def goes_within(width, mask, by):
    return all([is_within(place + by, 0, width - 1) for place in places_in(mask)])


def swaps_apart(width, mask, by):
    # A place in two exchanges would make their order matter.
    return goes_within(width, mask, by) and (mask & (mask << by)) == 0


def done(width, deed, word):
    name = deed[0]
    if name == "and":
        return word & deed[1]
    if name == "or":
        return word | deed[1]
    if name == "left":
        return (word << deed[1]) & full(width)
    if name == "right":
        return word >> deed[1]
    if name == "turn":
        return turned(width, word, deed[1])
    if name == "swap":
        return swapped(word, deed[1], deed[2])
    if name == "gather":
        return gathered(word, deed[1])
    if name == "strew":
        return strewn(word, deed[1])
    return copied(word, deed[1], deed[2])


def turned(width, word, by):
    return ((word << by) & full(width)) | (word >> (width - by))


def swapped(word, mask, by):
    # Only where the two bits are unlike does the exchange change them, and then both.
    unlike = (word ^ (word >> by)) & mask
    return word ^ unlike ^ (unlike << by)


def copied(word, mask, by):
    gone = word & shifted(mask, by)
    return (word ^ gone) | shifted(word & mask, by)


def shifted(word, by):
    return word << by if by >= 0 else word >> -by


def deed_leading(width, deed):
    if deed[0] == "gather":
        return gather_leading(width, deed[1])
    if deed[0] == "strew":
        return strew_leading(width, deed[1])
    return tuple([source_of(width, deed, place) for place in range(width)])


def gather_leading(width, mask):
    places = places_in(mask)
    return tuple(places + [NOUGHT] * (width - len(places)))


def strew_leading(width, mask):
    entries = [NOUGHT] * width
    for place, to in enumerate(places_in(mask)):
        entries[to] = place
    return tuple(entries)


def source_of(width, deed, place):
    name = deed[0]
    if name == "and":
        return place if bit_at(deed[1], place) == 1 else NOUGHT
    if name == "or":
        return ONE if bit_at(deed[1], place) == 1 else place
    if name == "left":
        return place_or_nought(width, place - deed[1])
    if name == "right":
        return place_or_nought(width, place + deed[1])
    if name == "turn":
        return (place - deed[1]) % width
    if name == "swap" and bit_at(deed[1], place) == 1:
        return place + deed[2]
    # The upper place of an exchange gets its bit just as the place of a copy does.
    return copy_source(deed[1], deed[2], place)


def place_or_nought(width, place):
    return place if is_within(place, 0, width - 1) else NOUGHT


def copy_source(mask, by, place):
    source = place - by
    return source if source >= 0 and bit_at(mask, source) == 1 else place
