"""Words and masks: whole numbers whose places each hold a bit."""


def bit_at(word, place):
    return (word >> place) & 1


def places_in(mask):
    return [place for place in range(mask.bit_length()) if bit_at(mask, place) == 1]


def mask_of(places):
    mask = 0
    for place in places:
        # Not a sum: a place that stands several times counts once.
        mask = mask | (1 << place)
    return mask


def low(many):
    return (1 << many) - 1


def full(width):
    return low(width)


def bits_in(mask):
    return len(places_in(mask))
