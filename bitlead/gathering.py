"""Bits gathered from the places of a mask, and strewn onto them."""

from bitlead.words import bit_at, mask_of, places_in


def gathered(word, mask):
    return mask_of([to for to, place in enumerate(places_in(mask)) if bit_at(word, place) == 1])


def strewn(word, mask):
    return mask_of([to for place, to in enumerate(places_in(mask)) if bit_at(word, place) == 1])
