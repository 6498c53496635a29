"""Rows and leadings undone, and what tells two leadings or two rows apart."""

from bitlead.deeds import deed_leading
from bitlead.errors import Lost
from bitlead.leadings import NOUGHT, ONE, is_even
from bitlead.rows import row_leading
from bitlead.words import bit_at


def undone(width, row):
    told = []
    for number, deed in enumerate(row):
        if not is_even(deed_leading(width, deed)):
            raise Lost(number)
        told.insert(0, undone_deed(width, deed))
    return told


def undone_deed(width, deed):
    if deed[0] == "turn":
        return ("turn", -deed[1] % width)
    # A swap undoes itself, and no deed of another word is even but where it does nothing.
    return deed


def back(leading, mask):
    return tuple([way_back(leading, mask, place) for place in range(len(leading))])


def way_back(leading, mask, place):
    if bit_at(mask, place) == 0:
        return NOUGHT
    if place not in leading:
        raise Lost(place)
    return leading.index(place)


def unlike_words(one, other):
    least = None
    for here, there in zip(one, other):
        if here != there:
            word = least_unlike(here, there)
            least = word if least is None else min(least, word)
    return least


def least_unlike(here, there):
    # A bit that is always 1 is unlike any other one in the word 0; else the lower place must hold the one bit.
    if ONE in (here, there):
        return 0
    if NOUGHT in (here, there):
        return 1 << max(here, there)
    return 1 << min(here, there)


def same_rows(width, one, other):
    return row_leading(width, one) == row_leading(width, other)
