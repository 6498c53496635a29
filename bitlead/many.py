"""Many words at once: one behind the other in one word, or sliced, a word for each place."""

from bitlead.leadings import NOUGHT, ONE
from bitlead.words import bit_at, full, low, mask_of


def packed(words, width):
    told = 0
    for number, word in enumerate(words):
        told = told | (word << (width * number))
    return told


def unpacked(word, width, many):
    return [(word >> (width * number)) & full(width) for number in range(many)]


def sliced(words, width):
    return [bits_at(words, place) for place in range(width)]


def unsliced(slices, many):
    # Slices are to words as words are to slices.
    return sliced(slices, many)


def bits_at(words, place):
    return mask_of([number for number, word in enumerate(words) if bit_at(word, place) == 1])


def slices_led(leading, slices, many):
    return [led_slice(entry, slices, many) for entry in leading]


def led_slice(entry, slices, many):
    if entry == NOUGHT:
        return 0
    return low(many) if entry == ONE else slices[entry] & low(many)
