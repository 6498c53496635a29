"""Gathering and strewing told as rows of copies, with one deed of and behind them."""

from bitlead.words import bits_in, low, mask_of, places_in


def gather_row(width, mask):
    row = [("copy", upper_ends(mask, by), -by) for by in steps(width)]
    return row + [("and", low(bits_in(mask)))]


def strew_row(width, mask):
    # Gathering gone through backwards: each bit starts where that step of gathering brought it.
    row = [("copy", upper_ends(mask, by) >> by, by) for by in reversed(steps(width))]
    return row + [("and", mask)]


def steps(width):
    # No bit goes further than width - 1 places, so these are enough to make up every way.
    return [1 << figure for figure in range((width - 1).bit_length())]


def upper_ends(mask, by):
    # The places, with all smaller steps gone already, of the bits that have this step on their way down.
    ends = []
    for number, place in enumerate(places_in(mask)):
        way = place - number
        if (way & by) != 0:
            # A higher bit never has the shorter way, so bits that are gone a part of it don't meet.
            ends.append(place - way % by)
    return mask_of(ends)
