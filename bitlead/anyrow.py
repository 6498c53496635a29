"""A row of deeds for any leading of a width by halves."""

from bitlead.halving import check_halved, even_row
from bitlead.leadings import NOUGHT, ONE
from bitlead.words import mask_of


def any_row(leading):
    check_halved(len(leading))
    runs = runs_of(leading)
    row = even_row(to_starts(leading, runs)) + copies_for(len(leading), runs)
    return row + even_row(to_ends(leading, runs)) + set_bits(leading)


def deeds_for(width):
    check_halved(width)
    if width == 1:
        return 2
    return 5 * (width.bit_length() - 1)


def runs_of(leading):
    # The copies spread each bit over neighbouring places, so each one is given a run as long as it is wanted often.
    runs = []
    start = 0
    for place in range(len(leading)):
        many = leading.count(place)
        if many > 0:
            runs.append((place, start, many))
            start = start + many
    return runs


def to_starts(leading, runs):
    entries = [None] * len(leading)
    for place, start, many in runs:
        entries[start] = place
    return filled_up(entries)


def to_ends(leading, runs):
    entries = [None] * len(leading)
    for place, start, many in runs:
        ends = [end for end, entry in enumerate(leading) if entry == place]
        for number, end in enumerate(ends):
            entries[end] = start + number
    return filled_up(entries)


def filled_up(entries):
    # What comes to the places left is never read, but swaps need every bit to come to just one.
    spare = [place for place in range(len(entries)) if place not in entries]
    told = []
    for entry in entries:
        told.append(spare.pop() if entry is None else entry)
    return tuple(told)


def copies_for(width, runs):
    copies = []
    by = 1
    while by < width:
        copies.append(("copy", copied_places(runs, by), by))
        by = by + by
    return copies


def copied_places(runs, by):
    places = []
    for place, start, many in runs:
        # The smaller steps have filled the first places of the run, as many as this step goes.
        places.extend(list(range(start, start + min(by, many - by))))
    return mask_of(places)


def set_bits(leading):
    kept = [place for place, entry in enumerate(leading) if entry != NOUGHT]
    ones = [place for place, entry in enumerate(leading) if entry == ONE]
    return [("and", mask_of(kept)), ("or", mask_of(ones))]
