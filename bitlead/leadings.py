"""Leadings: for each place of the told word, where its bit comes from."""

from bitlead.errors import Uneven
from bitlead.kinds import is_within
from bitlead.words import bit_at, mask_of

# The two entries that are no places: the bit is 0, the bit is 1.
NOUGHT = -1
ONE = -2

WIDEST = 64


def is_leading(thing):
    if not isinstance(thing, tuple):
        return False
    width = len(thing)
    return 1 <= width <= WIDEST and all([is_within(entry, ONE, width - 1) for entry in thing])


def led(leading, word):
    ones = []
    for place, entry in enumerate(leading):
        if entry == ONE or (entry >= 0 and bit_at(word, entry) == 1):
            ones.append(place)
    return mask_of(ones)


def staying(width):
    return tuple(range(width))


def then(one, other):
    # What other sets to 0 or 1 is so whatever one did ahead of it.
    return tuple([one[entry] if entry >= 0 else entry for entry in other])


def kept_by(leading):
    return mask_of([entry for entry in leading if entry >= 0])


def is_even(leading):
    return sorted(leading) == list(range(len(leading)))


def turned_back(leading):
    if not is_even(leading):
        raise Uneven("a leading that copies or drops bits can't be turned back")
    return tuple([leading.index(place) for place in range(len(leading))])
