"""Even leadings taken apart by halves, and told as rows of swaps."""

from bitlead.errors import Uneven, Unhalved
from bitlead.leadings import is_even, turned_back
from bitlead.words import mask_of

HALVED_WIDTHS = (1, 2, 4, 8, 16, 32, 64)


def check_halved(width):
    if width not in HALVED_WIDTHS:
        raise Unhalved("the width is none by halves")


def even_row(leading):
    return swaps_by(len(leading), halves(leading))


def halves(leading):
    check_halved(len(leading))
    if not is_even(leading):
        raise Uneven("a leading that copies or drops bits can't be led by swaps alone")
    return paper_of(leading)


def paper_of(leading):
    half = len(leading) // 2
    if half == 0:
        return ()
    crossing = through_upper(leading)
    first = mask_of([entry for place, entry in enumerate(leading) if crossing[place] and entry < half])
    last = mask_of([place for place in range(half) if crossing[place]])
    lower = [leading[place + half if crossing[place] else place] % half for place in range(half)]
    upper = [leading[place if crossing[place] else place + half] % half for place in range(half)]
    return (first, last, with_paper(tuple(lower)), with_paper(tuple(upper)))


def with_paper(leading):
    return (leading, paper_of(leading))


def through_upper(leading):
    # For each told place, whether its bit goes through the upper half.
    half = len(leading) // 2
    back = turned_back(leading)
    crossing = [None] * len(leading)
    for start in range(half):
        place = start
        # Two bits that start, or that end, half the width apart can't go through the same half. Each choice so
        # calls for another one, and the chain of them ends where it began.
        while crossing[place] is None:
            crossing[place] = False
            other = back[opposite(leading[place], half)]
            crossing[other] = True
            place = opposite(other, half)
    return crossing


def opposite(place, half):
    return place - half if place >= half else place + half


def swaps_by(width, paper):
    half = width // 2
    if half == 0:
        return []
    if half == 1:
        # Nothing stands between the two exchanges, and an exchange done twice is none.
        return [("swap", paper[0] ^ paper[1], 1)]
    lower = swaps_by(half, paper[2][1])
    upper = swaps_by(half, paper[3][1])
    within = [beside_swap(one, other, half) for one, other in zip(lower, upper)]
    return [("swap", paper[0], half)] + within + [("swap", paper[1], half)]


def beside_swap(one, other, half):
    return ("swap", one[1] | (other[1] << half), one[2])
